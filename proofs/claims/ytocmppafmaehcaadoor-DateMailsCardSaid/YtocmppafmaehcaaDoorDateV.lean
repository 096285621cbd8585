/-
  Plain facts: the reader answers as the document's Atom. No conditions.
-/
import Derived.Test.YtocmppafmaehcaaDoorDateT
namespace Go.Proofs.YtocmppafmaehcaaDoor

/-! Patterns. -/
theorem like_c (c : UInt8) (hc : c ≠ 57) (s p : List UInt8) : likeP (c :: s) (c :: p) = likeP s p := by
  show ((if c = 57 then isDg c else c == c) && likeP s p) = _
  rw [if_neg hc]; simp
theorem like_c_inv {c : UInt8} {x p : List UInt8} (hc : c ≠ 57) (h : likeP x (c :: p) = true) : ∃ s, x = c :: s ∧ likeP s p = true := by
  cases x with
  | nil => cases h
  | cons a s =>
    change ((if c = 57 then isDg a else a == c) && likeP s p) = true at h
    rw [if_neg hc, Bool.and_eq_true, beq_iff_eq] at h
    exact ⟨s, by rw [h.1], h.2⟩
theorem like_d (a : UInt8) (ha : isDg a = true) (s p : List UInt8) : likeP (a :: s) (57 :: p) = likeP s p := by
  show ((if (57 : UInt8) = 57 then isDg a else a == 57) && likeP s p) = _
  rw [if_pos rfl, ha]; simp
theorem like_d_inv {x p : List UInt8} (h : likeP x (57 :: p) = true) : ∃ a s, x = a :: s ∧ isDg a = true ∧ likeP s p = true := by
  cases x with
  | nil => cases h
  | cons a s =>
    change ((if (57 : UInt8) = 57 then isDg a else a == 57) && likeP s p) = true at h
    rw [if_pos rfl, Bool.and_eq_true] at h
    exact ⟨a, s, rfl, h.1, h.2⟩
theorem like_nil {x : List UInt8} (h : likeP x [] = true) : x = [] := by
  cases x with
  | nil => rfl
  | cons a s => cases h
theorem like_1 {d : List UInt8} (h : Dg 1 d) (s p : List UInt8) : likeP (d ++ s) (57 :: p) = likeP s p := by
  obtain ⟨a, rfl, ha, _⟩ := dg1 h
  exact like_d a ha s p
theorem like_2 {d : List UInt8} (h : Dg 2 d) (s p : List UInt8) : likeP (d ++ s) (57 :: 57 :: p) = likeP s p := by
  obtain ⟨a, b, rfl, ha, hb, _⟩ := dg2 h
  exact (like_d a ha _ _).trans (like_d b hb s p)
theorem like_4 {d : List UInt8} (h : Dg 4 d) (s p : List UInt8) : likeP (d ++ s) (57 :: 57 :: 57 :: 57 :: p) = likeP s p := by
  obtain ⟨a, b, c, e, rfl, ha, hb, hc, he⟩ := dg4 h
  exact (like_d a ha _ _).trans ((like_d b hb _ _).trans ((like_d c hc _ _).trans (like_d e he s p)))
theorem like_1_inv {x p : List UInt8} (h : likeP x (57 :: p) = true) : ∃ d s, Dg 1 d ∧ x = d ++ s ∧ likeP s p = true := by
  obtain ⟨a, s, rfl, ha, h⟩ := like_d_inv h
  exact ⟨[a], s, ⟨rfl, by simp [ha]⟩, rfl, h⟩
theorem like_2_inv {x p : List UInt8} (h : likeP x (57 :: 57 :: p) = true) : ∃ d s, Dg 2 d ∧ x = d ++ s ∧ likeP s p = true := by
  obtain ⟨a, s, rfl, ha, h⟩ := like_d_inv h
  obtain ⟨b, s, rfl, hb, h⟩ := like_d_inv h
  exact ⟨[a, b], s, ⟨rfl, by simp [ha, hb]⟩, rfl, h⟩
theorem like_4_inv {x p : List UInt8} (h : likeP x (57 :: 57 :: 57 :: 57 :: p) = true) : ∃ d s, Dg 4 d ∧ x = d ++ s ∧ likeP s p = true := by
  obtain ⟨a, s, rfl, ha, h⟩ := like_d_inv h
  obtain ⟨b, s, rfl, hb, h⟩ := like_d_inv h
  obtain ⟨c, s, rfl, hc, h⟩ := like_d_inv h
  obtain ⟨d, s, rfl, hd, h⟩ := like_d_inv h
  exact ⟨[a, b, c, d], s, ⟨rfl, by simp [ha, hb, hc, hd]⟩, rfl, h⟩
theorem like_2_nil {d : List UInt8} (h : Dg 2 d) : likeP d [57, 57] = true := by
  have := like_2 h [] []
  rw [List.append_nil] at this
  rw [this]; rfl
theorem dg2_bd {x : List UInt8} (h : Dg 2 x) : 0 ≤ valG x ∧ valG x ≤ 99 := by
  have := valG_bd 2 x h.1 h.2
  have e : (10 : Int) ^ 2 = 100 := by decide
  omega
theorem dg4_bd {x : List UInt8} (h : Dg 4 x) : 0 ≤ valG x ∧ valG x ≤ 9999 := by
  have := valG_bd 4 x h.1 h.2
  have e : (10 : Int) ^ 4 = 10000 := by decide
  omega
theorem dg1_bd {x : List UInt8} (h : Dg 1 x) : 0 ≤ valG x ∧ valG x ≤ 9 := by
  have := valG_bd 1 x h.1 h.2
  have e : (10 : Int) ^ 1 = 10 := by decide
  omega

/-! Offsets. -/
def offV (sg : UInt8) (H M : List UInt8) : Int := if sg = 45 then -(3600 * valG H + 60 * valG M) else 3600 * valG H + 60 * valG M
def offD (z colon : List UInt8) (off : Int) : Prop :=
  ∃ sg H M, (sg = 43 ∨ sg = 45) ∧ Dg 2 H ∧ Dg 2 M ∧ z = sg :: (H ++ (colon ++ M)) ∧ valG H ≤ 23 ∧ valG M ≤ 59 ∧ off = offV sg H M
theorem one_sign (z : List UInt8) : oneF [[43], [45]] (43 :: z) = (0, z, true) ∧ oneF [[43], [45]] (45 :: z) = (1, z, true) := by
  constructor
  · simp [oneF, tkI, tkL, tkB, takeW, List.isPrefixOf]
  · simp [oneF, tkI, tkL, tkB, takeW, List.isPrefixOf]
theorem offF_iff (z colon : List UInt8) (off : Int) : offF colon z = (off, [], true) ↔ offD z colon off := by
  constructor
  · intro h
    obtain ⟨⟨g, l1, o1⟩, f1⟩ : ∃ f, oneF [[43], [45]] z = f := ⟨_, rfl⟩
    obtain ⟨⟨hh, l2, o2⟩, f2⟩ : ∃ f, twoF 0 23 l1 = f := ⟨_, rfl⟩
    obtain ⟨⟨q, l3, o3⟩, f3⟩ : ∃ f, oneF [colon] l2 = f := ⟨_, rfl⟩
    obtain ⟨⟨m, l4, o4⟩, f4⟩ : ∃ f, twoF 0 59 l3 = f := ⟨_, rfl⟩
    unfold offF at h
    simp only [f1, f2, f3, f4, Prod.mk.injEq, Bool.and_eq_true] at h
    obtain ⟨hv, rfl, rfl, rfl, rfl, rfl⟩ := h
    obtain ⟨k, hk, hkl, hz⟩ := oneF_inv f1
    obtain ⟨H, dH, e2, v2, _, b2⟩ := twoF_inv f2
    obtain ⟨k3, _, hk3, e3⟩ := oneF_inv f3
    obtain ⟨M, dM, e4, v4, _, b4⟩ := twoF_inv f4
    have hk30 : k3 = 0 := by simp at hk3; exact hk3
    subst hk30
    change l2 = colon ++ l3 at e3
    rw [List.append_nil] at e4
    match k, hkl with
    | 0, _ =>
      change z = 43 :: l1 at hz
      refine ⟨43, H, M, .inl rfl, dH, dM, by rw [hz, e2, e3, e4], b2, b4, ?_⟩
      rw [← hv, hk, v2, v4]
      unfold offV
      rw [if_neg (by decide), if_neg (by decide)]
      omega
    | 1, _ =>
      change z = 45 :: l1 at hz
      refine ⟨45, H, M, .inr rfl, dH, dM, by rw [hz, e2, e3, e4], b2, b4, ?_⟩
      rw [← hv, hk, v2, v4]
      unfold offV
      rw [if_pos (by decide), if_pos (by decide)]
      omega
  · rintro ⟨sg, H, M, hsg, dH, dM, rfl, b2, b4, rfl⟩
    have hb := dg2_bd dH
    have mb := dg2_bd dM
    have f2 := twoF_full 0 23 (colon ++ M) dH ⟨hb.1, b2⟩
    have f3 := oneF_one colon M
    have f4 := twoF_full 0 59 [] dM ⟨mb.1, b4⟩
    rw [List.append_nil] at f4
    rcases hsg with rfl | rfl
    · unfold offF
      simp only [(one_sign (H ++ (colon ++ M))).1, f2, f3, f4, Prod.mk.injEq, Bool.and_true, and_true]
      unfold offV
      rw [if_neg (by decide), if_neg (by decide)]
      omega
    · unfold offF
      simp only [(one_sign (H ++ (colon ++ M))).2, f2, f3, f4, Prod.mk.injEq, Bool.and_true, and_true]
      unfold offV
      rw [if_pos (by decide), if_pos rfl]
      omega
theorem off_pieces (sg : UInt8) (H M colon : List UInt8) (dH : Dg 2 H) (dM : Dg 2 M) : ((sg :: (H ++ (colon ++ M))).drop 1).take 2 = H ∧ (sg :: (H ++ (colon ++ M))).drop ((sg :: (H ++ (colon ++ M))).length - 2) = M := by
  refine ⟨?_, ?_⟩
  · show (H ++ (colon ++ M)).take 2 = H
    rw [← dH.1, List.take_left]
  · have e : sg :: (H ++ (colon ++ M)) = (sg :: (H ++ colon)) ++ M := by simp
    rw [e, List.length_append, dM.1, Nat.add_sub_cancel, List.drop_left]
theorem offP_iff (z colon : List UInt8) (hc : colon = [58] ∨ colon = []) (off : Int) : offP z colon = some off ↔ offD z colon off := by
  have hpat : ∀ (sg : UInt8) (hsg : sg ≠ 57) (x : List UInt8), likeP x ([sg, 57, 57] ++ colon ++ [57, 57]) = true ↔ ∃ H M, Dg 2 H ∧ Dg 2 M ∧ x = sg :: (H ++ (colon ++ M)) := by
    intro sg hsg x
    constructor
    · intro h
      rcases hc with rfl | rfl
      · obtain ⟨s1, e1, h1⟩ := like_c_inv hsg h
        obtain ⟨H, s2, dH, e2, h2⟩ := like_2_inv h1
        obtain ⟨s3, e3, h3⟩ := like_c_inv (by decide) h2
        obtain ⟨M, s4, dM, e4, h4⟩ := like_2_inv h3
        rw [like_nil h4, List.append_nil] at e4
        exact ⟨H, M, dH, dM, by rw [e1, e2, e3, e4]; rfl⟩
      · obtain ⟨s1, e1, h1⟩ := like_c_inv hsg h
        obtain ⟨H, s2, dH, e2, h2⟩ := like_2_inv h1
        obtain ⟨M, s4, dM, e4, h4⟩ := like_2_inv h2
        rw [like_nil h4, List.append_nil] at e4
        exact ⟨H, M, dH, dM, by rw [e1, e2, e4]; rfl⟩
    · rintro ⟨H, M, dH, dM, rfl⟩
      rcases hc with rfl | rfl
      · show likeP (sg :: (H ++ (58 :: M))) (sg :: 57 :: 57 :: 58 :: [57, 57]) = true
        rw [like_c sg hsg, like_2 dH, like_c 58 (by decide), like_2_nil dM]
      · show likeP (sg :: (H ++ M)) (sg :: 57 :: 57 :: [57, 57]) = true
        rw [like_c sg hsg, like_2 dH, like_2_nil dM]
  unfold offP
  constructor
  · intro h
    split at h
    · rename_i hl
      split at h
      · rename_i hr
        have hx : ∃ sg H M, (sg = 43 ∨ sg = 45) ∧ Dg 2 H ∧ Dg 2 M ∧ z = sg :: (H ++ (colon ++ M)) := by
          rcases hl with hl | hl
          · obtain ⟨H, M, dH, dM, e⟩ := (hpat 43 (by decide) z).1 hl
            exact ⟨43, H, M, .inl rfl, dH, dM, e⟩
          · obtain ⟨H, M, dH, dM, e⟩ := (hpat 45 (by decide) z).1 hl
            exact ⟨45, H, M, .inr rfl, dH, dM, e⟩
        obtain ⟨sg, H, M, hsg, dH, dM, rfl⟩ := hx
        obtain ⟨p1, p2⟩ := off_pieces sg H M colon dH dM
        rw [p1, p2, dH.digP, dM.digP] at h hr
        refine ⟨sg, H, M, hsg, dH, dM, rfl, by omega, by omega, ?_⟩
        rw [← Option.some.inj h]
        unfold offV
        simp
      · cases h
    · cases h
  · rintro ⟨sg, H, M, hsg, dH, dM, rfl, b2, b4, rfl⟩
    obtain ⟨p1, p2⟩ := off_pieces sg H M colon dH dM
    rw [p1, p2, dH.digP, dM.digP, if_pos, if_pos (by omega)]
    · unfold offV; simp
    · rcases hsg with rfl | rfl
      · left; exact (hpat 43 (by decide) _).2 ⟨H, M, dH, dM, rfl⟩
      · right; exact (hpat 45 (by decide) _).2 ⟨H, M, dH, dM, rfl⟩

/-! Fractions and zones. -/
theorem tk_one (c : UInt8) (r : List UInt8) : tkB [[c]] (c :: r) = true ∧ tkL [[c]] (c :: r) = r := by
  have h := oneF_c c r
  unfold oneF at h
  simp only [Prod.mk.injEq] at h
  exact ⟨h.2.2, h.2.1⟩
theorem tk_one_no {c : UInt8} {z : List UInt8} (h : ∀ r, z ≠ c :: r) : tkB [[c]] z = false := by
  cases hk : tkB [[c]] z with
  | false => rfl
  | true =>
    have e : oneF [[c]] z = (tkI [[c]] z, tkL [[c]] z, true) := by unfold oneF; rw [hk]
    exact absurd (one_inv e) (h _)
theorem drop_lt (l : List UInt8) : (l.dropWhile isDg).length < l.length ↔ l.takeWhile isDg ≠ [] := by
  have e := List.takeWhile_append_dropWhile (p := isDg) (l := l)
  have := congrArg List.length e
  rw [List.length_append] at this
  constructor
  · intro h he
    rw [he, List.length_nil] at this
    omega
  · intro h
    have : 0 < (l.takeWhile isDg).length := List.length_pos_iff.2 h
    omega
theorem skip_iff (z z2 : List UInt8) : skipF z = (z2, true) ↔ fracP z = some z2 := by
  by_cases hz : ∃ r, z = 46 :: r
  · obtain ⟨r, rfl⟩ := hz
    unfold skipF fracP
    rw [(tk_one 46 r).1, (tk_one 46 r).2]
    rw [if_pos rfl, if_pos (show (46 :: r).head? = some 46 from rfl)]
    show (r.dropWhile isDg, decide ((r.dropWhile isDg).length < r.length)) = (z2, true) ↔ (if r.takeWhile isDg = [] then none else some (r.dropWhile isDg)) = some z2
    rw [Prod.mk.injEq, decide_eq_true_eq, drop_lt]
    by_cases ht : r.takeWhile isDg = []
    · simp [ht]
    · simp [ht]
  · have hn : ∀ r, z ≠ 46 :: r := fun r e => hz ⟨r, e⟩
    unfold skipF fracP
    rw [tk_one_no hn, if_neg (by decide), if_neg]
    · simp
    · cases z with
      | nil => simp
      | cons a s =>
        intro e
        have : a = 46 := by simpa using e
        exact hn s (by rw [this])
theorem tkB_inv {ws : List (List UInt8)} {z : List UInt8} (h : tkB ws z = true) : ∃ k : Nat, k < ws.length ∧ z = ws.getD k [] ++ tkL ws z := by
  have e : oneF ws z = (tkI ws z, tkL ws z, true) := by unfold oneF; rw [h]
  obtain ⟨k, _, h1, h2⟩ := oneF_inv e
  exact ⟨k, h1, h2⟩
theorem offD_head {z colon : List UInt8} {off : Int} (h : offD z colon off) : ∃ sg r, (sg = 43 ∨ sg = 45) ∧ z = sg :: r := by
  obtain ⟨sg, H, M, hsg, _, _, e, _⟩ := h
  exact ⟨sg, _, hsg, e⟩
/-- No word that begins with a letter begins an offset. -/
theorem tk_off {ws : List (List UInt8)} {z colon : List UInt8} {off : Int} (h : offD z colon off) (hw : ∀ x ∈ ws, ∃ c t, x = c :: t ∧ c ≠ 43 ∧ c ≠ 45) : tkB ws z = false := by
  obtain ⟨sg, r, hsg, rfl⟩ := offD_head h
  cases hk : tkB ws (sg :: r) with
  | false => rfl
  | true =>
    obtain ⟨k, hk1, e⟩ := tkB_inv hk
    have hm : ws.getD k [] ∈ ws := by
      rw [List.getD_eq_getElem?_getD, List.getElem?_eq_getElem hk1]
      exact List.getElem_mem hk1
    obtain ⟨c, t, hx, n1, n2⟩ := hw _ hm
    rw [hx] at e
    have : sg = c := (List.cons.inj e).1
    rcases hsg with rfl | rfl
    · exact absurd this.symm n1
    · exact absurd this.symm n2
theorem zon_iff (z : List UInt8) (off : Int) : zonF z = (off, [], true) ↔ zoneA z = some off := by
  unfold zonF zoneA
  by_cases hz : z = [90] ∨ z = [122]
  · rw [if_pos hz]
    have hk : tkB [[90], [122]] z = true ∧ tkL [[90], [122]] z = [] := by rcases hz with rfl | rfl <;> decide
    rw [if_pos hk.1, hk.2]
    simp
  · rw [if_neg hz]
    rw [offP_iff z [58] (.inl rfl), ← offF_iff]
    cases hk : tkB [[90], [122]] z with
    | true =>
      rw [if_pos rfl]
      constructor
      · intro h
        simp only [Prod.mk.injEq, and_true] at h
        obtain ⟨k, hk1, e⟩ := tkB_inv hk
        rw [h.2, List.append_nil] at e
        match k, hk1 with
        | 0, _ => exact absurd (.inl e) hz
        | 1, _ => exact absurd (.inr e) hz
      · intro h
        have := tk_off ((offF_iff _ _ _).1 h) (ws := [[90], [122]]) (by
          intro x hx
          simp only [List.mem_cons, List.not_mem_nil, or_false] at hx
          rcases hx with rfl | rfl <;> exact ⟨_, _, rfl, by decide, by decide⟩)
        rw [this] at hk
        cases hk
    | false => rw [if_neg (by decide)]
end Go.Proofs.YtocmppafmaehcaaDoor
