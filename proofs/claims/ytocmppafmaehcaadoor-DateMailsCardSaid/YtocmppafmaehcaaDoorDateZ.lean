/-
  Plain facts: the reader answers as the document's Mail. No conditions.
-/
import Derived.Test.YtocmppafmaehcaaDoorDateY
namespace Go.Proofs.YtocmppafmaehcaaDoor

theorem valG_2 {C : List UInt8} (h : Dg 2 C) : mailYear C = if valG C < 50 then valG C + 2000 else valG C + 1900 := by
  unfold mailYear
  rw [if_pos h.1, h.digP]
theorem valG_4 {C : List UInt8} (h : Dg 4 C) : mailYear C = valG C := by
  unfold mailYear
  rw [if_neg (by rw [h.1]; decide), h.digP]
theorem year_inv {l r : List UInt8} {y : Int} (h : yearF l = (y, r, true)) : ∃ C, (Dg 2 C ∨ Dg 4 C) ∧ l = C ++ r ∧ y = mailYear C := by
  obtain ⟨⟨⟨n, k⟩, l1, o⟩, f⟩ : ∃ f, digF 2 4 l = f := ⟨_, rfl⟩
  unfold yearF at h
  rw [f] at h
  change (if k = 3 then (n, l1, false) else if k = 2 then (if n < 50 then (n + 2000, l1, o) else (n + 1900, l1, o)) else (n, l1, o)) = (y, r, true) at h
  by_cases k3 : k = 3
  · rw [if_pos k3] at h; simp at h
  rw [if_neg k3] at h
  by_cases k2 : k = 2
  · rw [if_pos k2] at h
    have ho : o = true ∧ l1 = r ∧ y = if n < 50 then n + 2000 else n + 1900 := by
      by_cases hn : n < 50
      · rw [if_pos hn] at h ⊢
        simp only [Prod.mk.injEq] at h
        exact ⟨h.2.2, h.2.1, h.1.symm⟩
      · rw [if_neg hn] at h ⊢
        simp only [Prod.mk.injEq] at h
        exact ⟨h.2.2, h.2.1, h.1.symm⟩
    obtain ⟨rfl, rfl, rfl⟩ := ho
    obtain ⟨j, C, dC, h1, h2, e, h4, h5⟩ := digF_inv f
    obtain rfl : j = 2 := by omega
    exact ⟨C, .inl dC, e, by rw [valG_2 dC, h4]⟩
  · rw [if_neg k2] at h
    simp only [Prod.mk.injEq] at h
    obtain ⟨rfl, rfl, rfl⟩ := h
    obtain ⟨j, C, dC, h1, h2, e, h4, h5⟩ := digF_inv f
    have hj : j = 4 := by omega
    subst hj
    exact ⟨C, .inr dC, e, by rw [valG_4 dC, h4]⟩
theorem blank_no : ∀ (c : UInt8) (t r : List UInt8), 32 :: r = c :: t → isDg c = false := by
  intro c t r h
  have := (List.cons.inj h).1
  rw [← this]; decide
theorem year_of {C : List UInt8} (r : List UInt8) (h : Dg 2 C ∨ Dg 4 C) : yearF (C ++ 32 :: r) = (mailYear C, 32 :: r, true) := by
  rcases h with h | h
  · have f := digF_part (k := 4) (least := 2) (r := 32 :: r) h (by omega) (by omega) (fun c t => blank_no c t r)
    unfold yearF
    rw [f]
    show (if ((2 : Nat) : Int) = 3 then _ else if ((2 : Nat) : Int) = 2 then _ else _) = _
    rw [if_neg (by decide), if_pos (by decide), valG_2 h]
    split <;> rfl
  · have f := digF_part (k := 4) (least := 2) (r := 32 :: r) h (by omega) (by omega) (fun c t => blank_no c t r)
    unfold yearF
    rw [f]
    show (if ((4 : Nat) : Int) = 3 then _ else if ((4 : Nat) : Int) = 2 then _ else _) = _
    rw [if_neg (by decide), if_neg (by decide), valG_4 h]
theorem week_take (k : Nat) (hk : k < 7) (r : List UInt8) : tkB weekN (weekN.getD k [] ++ r) = true ∧ tkL weekN (weekN.getD k [] ++ r) = r := by
  match k, hk with
  | 0, _ => simp [tkB, tkL, takeW, weekN, List.isPrefixOf]
  | 1, _ => simp [tkB, tkL, takeW, weekN, List.isPrefixOf]
  | 2, _ => simp [tkB, tkL, takeW, weekN, List.isPrefixOf]
  | 3, _ => simp [tkB, tkL, takeW, weekN, List.isPrefixOf]
  | 4, _ => simp [tkB, tkL, takeW, weekN, List.isPrefixOf]
  | 5, _ => simp [tkB, tkL, takeW, weekN, List.isPrefixOf]
  | 6, _ => simp [tkB, tkL, takeW, weekN, List.isPrefixOf]
theorem month_take (k : Nat) (hk : k < 12) (r : List UInt8) : oneF monthsN (monthsN.getD k [] ++ r) = ((k : Int), r, true) := by
  match k, hk with
  | 0, _ => simp [oneF, tkI, tkB, tkL, takeW, monthsN, List.isPrefixOf]
  | 1, _ => simp [oneF, tkI, tkB, tkL, takeW, monthsN, List.isPrefixOf]
  | 2, _ => simp [oneF, tkI, tkB, tkL, takeW, monthsN, List.isPrefixOf]
  | 3, _ => simp [oneF, tkI, tkB, tkL, takeW, monthsN, List.isPrefixOf]
  | 4, _ => simp [oneF, tkI, tkB, tkL, takeW, monthsN, List.isPrefixOf]
  | 5, _ => simp [oneF, tkI, tkB, tkL, takeW, monthsN, List.isPrefixOf]
  | 6, _ => simp [oneF, tkI, tkB, tkL, takeW, monthsN, List.isPrefixOf]
  | 7, _ => simp [oneF, tkI, tkB, tkL, takeW, monthsN, List.isPrefixOf]
  | 8, _ => simp [oneF, tkI, tkB, tkL, takeW, monthsN, List.isPrefixOf]
  | 9, _ => simp [oneF, tkI, tkB, tkL, takeW, monthsN, List.isPrefixOf]
  | 10, _ => simp [oneF, tkI, tkB, tkL, takeW, monthsN, List.isPrefixOf]
  | 11, _ => simp [oneF, tkI, tkB, tkL, takeW, monthsN, List.isPrefixOf]
theorem week_digit {c : UInt8} (hc : isDg c = true) (r : List UInt8) : tkB weekN (c :: r) = false := by
  cases hk : tkB weekN (c :: r) with
  | false => rfl
  | true =>
    obtain ⟨k, hk1, e⟩ := tkB_inv hk
    have hm : ∃ x t, weekN.getD k [] = x :: t ∧ isDg x = false := by
      match k, hk1 with
      | 0, _ => exact ⟨_, _, rfl, by decide⟩
      | 1, _ => exact ⟨_, _, rfl, by decide⟩
      | 2, _ => exact ⟨_, _, rfl, by decide⟩
      | 3, _ => exact ⟨_, _, rfl, by decide⟩
      | 4, _ => exact ⟨_, _, rfl, by decide⟩
      | 5, _ => exact ⟨_, _, rfl, by decide⟩
      | 6, _ => exact ⟨_, _, rfl, by decide⟩
    obtain ⟨x, t, hx, hn⟩ := hm
    rw [hx] at e
    have := (List.cons.inj e).1
    rw [this, hn] at hc
    cases hc
theorem head_of (pre A r : List UInt8) (hp : pre = [] ∨ ∃ k, k < 7 ∧ pre = weekN.getD k [] ++ [44, 32]) (hA : Dg 1 A ∨ Dg 2 A) : headF (pre ++ (A ++ r)) = (A ++ r, true) := by
  unfold headF
  rcases hp with rfl | ⟨k, hk, rfl⟩
  · have : ∃ c t, A = c :: t ∧ isDg c = true := by
      rcases hA with h | h
      · obtain ⟨a, rfl, ha, _⟩ := dg1 h; exact ⟨a, _, rfl, ha⟩
      · obtain ⟨a, b, rfl, ha, _⟩ := dg2 h; exact ⟨a, _, rfl, ha⟩
    obtain ⟨c, t, rfl, hc⟩ := this
    rw [if_neg]
    · rfl
    · show ¬ tkB weekN (c :: (t ++ r)) = true
      rw [week_digit hc]; decide
  · rw [List.append_assoc]
    obtain ⟨h1, h2⟩ := week_take k hk ([44, 32] ++ (A ++ r))
    rw [h1, h2, if_pos rfl, oneF_one]
theorem head_inv {l r : List UInt8} (h : headF l = (r, true)) : ∃ pre, (pre = [] ∨ ∃ k, k < 7 ∧ pre = weekN.getD k [] ++ [44, 32]) ∧ l = pre ++ r := by
  unfold headF at h
  cases hk : tkB weekN l with
  | true =>
    rw [if_pos hk] at h
    obtain ⟨⟨i, l1, o⟩, f⟩ : ∃ f, oneF [[44, 32]] (tkL weekN l) = f := ⟨_, rfl⟩
    rw [f, Prod.mk.injEq] at h
    obtain ⟨h1, h2⟩ := h
    change l1 = r at h1
    change o = true at h2
    subst h1 h2
    obtain ⟨k, hk1, e⟩ := tkB_inv hk
    obtain ⟨j, _, hj, e2⟩ := oneF_inv f
    have hj0 : j = 0 := by simp at hj; exact hj
    subst hj0
    change tkL weekN l = [44, 32] ++ l1 at e2
    refine ⟨weekN.getD k [] ++ [44, 32], .inr ⟨k, hk1, rfl⟩, ?_⟩
    rw [e, e2, List.append_assoc]
  | false =>
    rw [if_neg (by simp [hk]), Prod.mk.injEq] at h
    exact ⟨[], .inl rfl, h.1⟩
theorem mailF_iff (l0 : List UInt8) (v : Int) : ansF (mailF l0) = some v ↔ mailD l0 v := by
  constructor
  · intro hans
    obtain ⟨⟨l1, o1⟩, f1⟩ : ∃ f, headF l0 = f := ⟨_, rfl⟩
    obtain ⟨⟨⟨d, z2⟩, l2, o2⟩, f2⟩ : ∃ f, digF 1 2 l1 = f := ⟨_, rfl⟩
    obtain ⟨⟨z3, l3, o3⟩, f3⟩ : ∃ f, oneF [[32]] l2 = f := ⟨_, rfl⟩
    obtain ⟨⟨i, l4, o4⟩, f4⟩ : ∃ f, oneF monthsN l3 = f := ⟨_, rfl⟩
    obtain ⟨⟨z5, l5, o5⟩, f5⟩ : ∃ f, oneF [[32]] l4 = f := ⟨_, rfl⟩
    obtain ⟨⟨y, l6, o6⟩, f6⟩ : ∃ f, yearF l5 = f := ⟨_, rfl⟩
    obtain ⟨⟨z7, l7, o7⟩, f7⟩ : ∃ f, oneF [[32]] l6 = f := ⟨_, rfl⟩
    obtain ⟨⟨hh, l8, o8⟩, f8⟩ : ∃ f, twoF 0 23 l7 = f := ⟨_, rfl⟩
    obtain ⟨⟨z9, l9, o9⟩, f9⟩ : ∃ f, oneF [[58]] l8 = f := ⟨_, rfl⟩
    obtain ⟨⟨mi, l10, o10⟩, f10⟩ : ∃ f, twoF 0 59 l9 = f := ⟨_, rfl⟩
    obtain ⟨⟨sc, l11, o11⟩, f11⟩ : ∃ f, secF l10 = f := ⟨_, rfl⟩
    obtain ⟨⟨z12, l12, o12⟩, f12⟩ : ∃ f, oneF [[32]] l11 = f := ⟨_, rfl⟩
    obtain ⟨⟨ah, l13, o13⟩, f13⟩ : ∃ f, mzF l12 = f := ⟨_, rfl⟩
    have HF : mailF l0 = (⟨y, i + 1, d, hh, mi, sc, ah⟩, l13, o1 && (o2 && (decide (1 ≤ d) && (o3 && (o4 && (o5 && (o6 && (o7 && (o8 && (o9 && (o10 && (o11 && (o12 && o13))))))))))))) := by
      unfold mailF
      simp only [f1, f2, f3, f4, f5, f6, f7, f8, f9, f10, f11, f12, f13]
    rw [HF] at hans
    obtain ⟨⟨hok, hl, hy, hd⟩, hv⟩ := ansF_some hans
    simp only [Bool.and_eq_true, decide_eq_true_eq] at hok
    obtain ⟨rfl, rfl, hd1, rfl, rfl, rfl, rfl, rfl, rfl, rfl, rfl, rfl, rfl, rfl⟩ := hok
    subst hl
    obtain ⟨pre, hpre, e1⟩ := head_inv f1
    obtain ⟨k, A, dA, k1, k2, e2, v2, _⟩ := digF_inv f2
    have hA : Dg 1 A ∨ Dg 2 A := by
      have : k = 1 ∨ k = 2 := by omega
      rcases this with rfl | rfl
      · exact .inl dA
      · exact .inr dA
    have e3 := one_inv f3
    obtain ⟨kM, hi, hkM, e4⟩ := oneF_inv f4
    have e5 := one_inv f5
    obtain ⟨C, hC, e6, v6⟩ := year_inv f6
    have e7 := one_inv f7
    obtain ⟨H, dH, e8, v8, b8, c8⟩ := twoF_inv f8
    have e9 := one_inv f9
    obtain ⟨M, dM, e10, v10, b10, c10⟩ := twoF_inv f10
    have e12 := one_inv f12
    have hT : ∃ T, clockD T hh mi sc ∧ H ++ 58 :: (M ++ l10) = T ++ l11 ∧ sc ≤ 60 := by
      unfold secF at f11
      cases hk : tkB [[58]] l10 with
      | true =>
        rw [if_pos hk] at f11
        obtain ⟨S, dS, e11, v11, b11, c11⟩ := twoF_inv f11
        obtain ⟨j, hj, ej⟩ := tkB_inv hk
        have hj0 : j = 0 := by simp at hj; exact hj
        subst hj0
        change l10 = 58 :: tkL [[58]] l10 at ej
        refine ⟨H ++ 58 :: (M ++ 58 :: S), ⟨H, M, dH, dM, v8, v10, .inr ⟨S, dS, rfl, v11⟩⟩, ?_, by omega⟩
        rw [ej, e11]; simp
      | false =>
        rw [if_neg (by simp [hk])] at f11
        simp only [Prod.mk.injEq, and_true] at f11
        obtain ⟨rfl, rfl⟩ := f11
        exact ⟨H ++ 58 :: M, ⟨H, M, dH, dM, v8, v10, .inl ⟨rfl, rfl⟩⟩, by simp, by omega⟩
    obtain ⟨T, hTd, eT, s60⟩ := hT
    refine ⟨pre, A, kM, C, T, l12, hh, mi, sc, ah, hpre, hA, hkM, hC, hTd, ?_, (mz_iff _ _).1 f13, ?_⟩
    · unfold textM
      rw [e1, e2, e3, e4, e5, e6, e7, e8, e9, e10, eT, e12]
    · change 1 ≤ y at hy
      change d ≤ lenM y (i + 1) at hd
      change v = 86400 * (dnum y (i + 1) d - 719162) + (hh * 3600 + mi * 60 + min sc 59) - ah at hv
      have hl12 : monthsN.length = 12 := rfl
      have hyb : y ≤ 9999 := by
        rw [v6]
        rcases hC with h | h
        · have := dg2_bd h; rw [valG_2 h]; split <;> omega
        · have := dg4_bd h; rw [valG_4 h]; omega
      unfold timeP
      rw [← v2, ← v6, ← hi, if_pos (by omega)]
      exact congrArg some (by omega)
  · rintro ⟨pre, A, kM, C, T, Z, h, mi, s, off, hpre, hA, hk, hC, hT, rfl, hz, ht⟩
    obtain ⟨⟨t1, t2, t3, t4, t5, t6, t7, t8, t9⟩, hv⟩ := timeP_some ht
    have hmz := (mz_iff Z off).2 hz
    have f2 : ∃ z, digF 1 2 (A ++ 32 :: (monthsN.getD kM [] ++ 32 :: (C ++ 32 :: (T ++ 32 :: Z)))) = ((valG A, z), 32 :: (monthsN.getD kM [] ++ 32 :: (C ++ 32 :: (T ++ 32 :: Z))), true) := by
      rcases hA with h | h
      · exact ⟨_, digF_part h (by omega) (by omega) (fun c t => blank_no c t _)⟩
      · exact ⟨_, digF_part h (by omega) (by omega) (fun c t => blank_no c t _)⟩
    obtain ⟨z2, f2⟩ := f2
    have f1 := head_of pre A (32 :: (monthsN.getD kM [] ++ 32 :: (C ++ 32 :: (T ++ 32 :: Z)))) hpre hA
    have hclk : ∃ l8 l9 l10, twoF 0 23 (T ++ 32 :: Z) = (h, l8, true) ∧ oneF [[58]] l8 = (0, l9, true) ∧ twoF 0 59 l9 = (mi, l10, true) ∧ secF l10 = (s, 32 :: Z, true) := by
      obtain ⟨H, M, dH, dM, rfl, rfl, hs⟩ := hT
      have bH := dg2_bd dH
      have bM := dg2_bd dM
      rcases hs with ⟨rfl, rfl⟩ | ⟨S, dS, rfl, rfl⟩
      · refine ⟨58 :: (M ++ 32 :: Z), M ++ 32 :: Z, 32 :: Z, ?_, oneF_c _ _, twoF_full 0 59 _ dM ⟨bM.1, t8⟩, ?_⟩
        · rw [List.append_assoc]; exact twoF_full 0 23 _ dH ⟨bH.1, t7⟩
        · unfold secF
          rw [if_neg]
          rw [tk_one_no (fun r e => by cases e)]; decide
      · have bS := dg2_bd dS
        refine ⟨58 :: (M ++ 58 :: (S ++ 32 :: Z)), M ++ 58 :: (S ++ 32 :: Z), 58 :: (S ++ 32 :: Z), ?_, oneF_c _ _, twoF_full 0 59 _ dM ⟨bM.1, t8⟩, ?_⟩
        · have e : H ++ 58 :: (M ++ 58 :: S) ++ 32 :: Z = H ++ 58 :: (M ++ 58 :: (S ++ 32 :: Z)) := by simp
          rw [e]; exact twoF_full 0 23 _ dH ⟨bH.1, t7⟩
        · unfold secF
          rw [(tk_one 58 _).1, (tk_one 58 _).2, if_pos rfl]
          exact twoF_full 0 60 _ dS ⟨bS.1, t9⟩
    obtain ⟨l8, l9, l10, g8, g9, g10, g11⟩ := hclk
    have HF : mailF (pre ++ textM A kM C T Z) = (⟨mailYear C, (kM : Int) + 1, valG A, h, mi, s, off⟩, [], true) := by
      unfold mailF textM
      simp only [f1, f2, oneF_c, month_take kM hk, year_of _ hC, g8, g9, g10, g11, hmz, Bool.and_self, Bool.and_true]
      simp [t5]
    rw [HF]
    unfold ansF
    rw [if_pos ⟨rfl, rfl, t1, t6⟩]
    show some (86400 * (dnum (mailYear C) ((kM : Int) + 1) (valG A) - 719162) + (h * 3600 + mi * 60 + min s 59) - off) = some v
    exact congrArg some (by omega)
theorem mail_same (l : List UInt8) : ansF (mailF l) = mailP l := by
  apply Option.ext
  intro v
  rw [mailF_iff, mailP_iff]
end Go.Proofs.YtocmppafmaehcaaDoor
