/-
  Plain facts: the reader answers as the document's Mail. No conditions.
-/
import Derived.Test.YtocmppafmaehcaaDoorDateX
namespace Go.Proofs.YtocmppafmaehcaaDoor

def clockD (T : List UInt8) (h mi s : Int) : Prop :=
  ∃ H M, Dg 2 H ∧ Dg 2 M ∧ h = valG H ∧ mi = valG M ∧ ((T = H ++ 58 :: M ∧ s = 0) ∨ ∃ S, Dg 2 S ∧ T = H ++ 58 :: (M ++ 58 :: S) ∧ s = valG S)
def textM (A : List UInt8) (kM : Nat) (C T Z : List UInt8) : List UInt8 := A ++ 32 :: (monthsN.getD kM [] ++ 32 :: (C ++ 32 :: (T ++ 32 :: Z)))
def mailD (l : List UInt8) (v : Int) : Prop :=
  ∃ pre A kM C T Z h mi s off, (pre = [] ∨ ∃ k, k < 7 ∧ pre = weekN.getD k [] ++ [44, 32]) ∧ (Dg 1 A ∨ Dg 2 A) ∧ kM < 12 ∧ (Dg 2 C ∨ Dg 4 C) ∧ clockD T h mi s ∧ l = pre ++ textM A kM C T Z ∧ zoneM Z = some off ∧ timeP (mailYear C) ((kM : Int) + 1) (valG A) h mi s off = some v
theorem dg_blank {n : Nat} {x : List UInt8} (h : Dg n x) : (32 : UInt8) ∉ x := by
  intro hm
  have := List.all_eq_true.1 h.2 32 hm
  simp [isDg] at this
theorem clock_blank {T : List UInt8} {h mi s : Int} (hd : clockD T h mi s) : (32 : UInt8) ∉ T := by
  obtain ⟨H, M, dH, dM, _, _, ⟨rfl, _⟩ | ⟨S, dS, rfl, _⟩⟩ := hd
  · simp only [List.mem_append, List.mem_cons, not_or]
    exact ⟨dg_blank dH, by decide, dg_blank dM⟩
  · simp only [List.mem_append, List.mem_cons, not_or]
    exact ⟨dg_blank dH, by decide, dg_blank dM, by decide, dg_blank dS⟩
theorem like_day {a : List UInt8} : (likeP a [57] = true ∨ likeP a [57, 57] = true) ↔ (Dg 1 a ∨ Dg 2 a) := by
  constructor
  · rintro (h | h)
    · obtain ⟨d, s, hd, e, h2⟩ := like_1_inv h
      rw [like_nil h2, List.append_nil] at e; subst e; exact .inl hd
    · obtain ⟨d, s, hd, e, h2⟩ := like_2_inv h
      rw [like_nil h2, List.append_nil] at e; subst e; exact .inr hd
  · rintro (h | h)
    · have := like_1 h [] []
      rw [List.append_nil] at this
      exact .inl (this.trans rfl)
    · exact .inr (like_2_nil h)
theorem like_year {a : List UInt8} : (likeP a [57, 57] = true ∨ likeP a [57, 57, 57, 57] = true) ↔ (Dg 2 a ∨ Dg 4 a) := by
  constructor
  · rintro (h | h)
    · obtain ⟨d, s, hd, e, h2⟩ := like_2_inv h
      rw [like_nil h2, List.append_nil] at e; subst e; exact .inl hd
    · obtain ⟨d, s, hd, e, h2⟩ := like_4_inv h
      rw [like_nil h2, List.append_nil] at e; subst e; exact .inr hd
  · rintro (h | h)
    · exact .inl (like_2_nil h)
    · have := like_4 h [] []
      rw [List.append_nil] at this
      exact .inr (this.trans rfl)
theorem like_clock {d : List UInt8} (h : likeP d [57, 57, 58, 57, 57] = true ∨ likeP d [57, 57, 58, 57, 57, 58, 57, 57] = true) :
    clockD d (digP (d.take 2)) (digP ((d.drop 3).take 2)) (if d.length = 8 then digP (d.drop 6) else 0) := by
  rcases h with h | h
  · obtain ⟨H, s1, dH, e1, h1⟩ := like_2_inv h
    obtain ⟨s2, e2, h2⟩ := like_c_inv (by decide) h1
    obtain ⟨M, s3, dM, e3, h3⟩ := like_2_inv h2
    have e4 := like_nil h3
    have e : d = H ++ 58 :: M := by rw [e1, e2, e3, e4, List.append_nil]
    subst e
    have p1 : (H ++ 58 :: M).take 2 = H := by rw [← dH.1, List.take_left]
    have p2 : ((H ++ 58 :: M).drop 3).take 2 = M := by
      obtain ⟨a, b, rfl, _⟩ := dg2 dH
      obtain ⟨c, f, rfl, _⟩ := dg2 dM
      rfl
    have p3 : (H ++ 58 :: M).length = 5 := by rw [List.length_append, List.length_cons, dH.1, dM.1]
    rw [p1, p2, p3, dH.digP, dM.digP]
    exact ⟨H, M, dH, dM, rfl, rfl, .inl ⟨rfl, rfl⟩⟩
  · obtain ⟨H, s1, dH, e1, h1⟩ := like_2_inv h
    obtain ⟨s2, e2, h2⟩ := like_c_inv (by decide) h1
    obtain ⟨M, s3, dM, e3, h3⟩ := like_2_inv h2
    obtain ⟨s4, e4, h4⟩ := like_c_inv (by decide) h3
    obtain ⟨S, s5, dS, e5, h5⟩ := like_2_inv h4
    have e6 := like_nil h5
    have e : d = H ++ 58 :: (M ++ 58 :: S) := by rw [e1, e2, e3, e4, e5, e6, List.append_nil]
    subst e
    have p : (H ++ 58 :: (M ++ 58 :: S)).take 2 = H ∧ ((H ++ 58 :: (M ++ 58 :: S)).drop 3).take 2 = M ∧ (H ++ 58 :: (M ++ 58 :: S)).drop 6 = S ∧ (H ++ 58 :: (M ++ 58 :: S)).length = 8 := by
      obtain ⟨a, b, rfl, _⟩ := dg2 dH
      obtain ⟨c, f, rfl, _⟩ := dg2 dM
      obtain ⟨g, i, rfl, _⟩ := dg2 dS
      exact ⟨rfl, rfl, rfl, rfl⟩
    rw [p.1, p.2.1, p.2.2.1, p.2.2.2, if_pos rfl, dH.digP, dM.digP, dS.digP]
    exact ⟨H, M, dH, dM, rfl, rfl, .inr ⟨S, dS, rfl, rfl⟩⟩
theorem clock_like {T : List UInt8} {h mi s : Int} (hd : clockD T h mi s) : (likeP T [57, 57, 58, 57, 57] = true ∨ likeP T [57, 57, 58, 57, 57, 58, 57, 57] = true) ∧ digP (T.take 2) = h ∧ digP ((T.drop 3).take 2) = mi ∧ (if T.length = 8 then digP (T.drop 6) else 0) = s := by
  obtain ⟨H, M, dH, dM, rfl, rfl, ⟨rfl, rfl⟩ | ⟨S, dS, rfl, rfl⟩⟩ := hd
  · have p1 : (H ++ 58 :: M).take 2 = H := by rw [← dH.1, List.take_left]
    have p2 : ((H ++ 58 :: M).drop 3).take 2 = M := by
      obtain ⟨a, b, rfl, _⟩ := dg2 dH
      obtain ⟨c, f, rfl, _⟩ := dg2 dM
      rfl
    have p3 : (H ++ 58 :: M).length = 5 := by rw [List.length_append, List.length_cons, dH.1, dM.1]
    rw [p1, p2, p3, dH.digP, dM.digP]
    refine ⟨.inl ?_, rfl, rfl, rfl⟩
    rw [like_2 dH, like_c 58 (by decide), like_2_nil dM]
  · have p : (H ++ 58 :: (M ++ 58 :: S)).take 2 = H ∧ ((H ++ 58 :: (M ++ 58 :: S)).drop 3).take 2 = M ∧ (H ++ 58 :: (M ++ 58 :: S)).drop 6 = S ∧ (H ++ 58 :: (M ++ 58 :: S)).length = 8 := by
      obtain ⟨a, b, rfl, _⟩ := dg2 dH
      obtain ⟨c, f, rfl, _⟩ := dg2 dM
      obtain ⟨g, i, rfl, _⟩ := dg2 dS
      exact ⟨rfl, rfl, rfl, rfl⟩
    rw [p.1, p.2.1, p.2.2.1, p.2.2.2, if_pos rfl, dH.digP, dM.digP, dS.digP]
    refine ⟨.inr ?_, rfl, rfl, rfl⟩
    rw [like_2 dH, like_c 58 (by decide), like_2 dM, like_c 58 (by decide), like_2_nil dS]
theorem body_inv {w : List (List UInt8)} {v : Int} (h : mailBody w = some v) : ∃ A kM C T Z hh mi s off, (Dg 1 A ∨ Dg 2 A) ∧ kM < 12 ∧ (Dg 2 C ∨ Dg 4 C) ∧ clockD T hh mi s ∧ w = [A, monthsN.getD kM [], C, T, Z] ∧ zoneM Z = some off ∧ timeP (mailYear C) ((kM : Int) + 1) (valG A) hh mi s off = some v := by
  unfold mailBody at h
  split at h
  · rename_i a b c d e
    split at h
    · rename_i hk
      obtain ⟨k1, k2, k3⟩ := hk
      rw [Option.bind_eq_some_iff] at h
      obtain ⟨off, hz, ht⟩ := h
      have hA := like_day.1 k1
      have hC := like_year.1 k2
      have hT := like_clock k3
      have hb := (timeP_some ht).1
      obtain ⟨k, hk, hp, he⟩ := place_inv (w := b) (ws := monthsN) (by omega)
      have dA : digP a = valG a := by
        rcases hA with h | h
        · exact h.digP
        · exact h.digP
      rw [hp, dA] at ht
      refine ⟨a, k, c, d, e, _, _, _, off, hA, hk, hC, hT, by rw [he], hz, ht⟩
    · cases h
  · cases h
theorem body_of {A C T Z : List UInt8} {kM : Nat} {h mi s off v : Int} (hA : Dg 1 A ∨ Dg 2 A) (hk : kM < 12) (hC : Dg 2 C ∨ Dg 4 C) (hT : clockD T h mi s) (hz : zoneM Z = some off) (ht : timeP (mailYear C) ((kM : Int) + 1) (valG A) h mi s off = some v) :
    mailBody [A, monthsN.getD kM [], C, T, Z] = some v := by
  obtain ⟨c1, c2, c3, c4⟩ := clock_like hT
  have dA : digP A = valG A := by
    rcases hA with h | h
    · exact h.digP
    · exact h.digP
  show (if _ then _ else _) = _
  rw [if_pos ⟨like_day.2 hA, like_year.2 hC, c1⟩, hz, c2, c3, c4, dA, (month_at kM hk).1]
  exact ht
theorem mailP_iff (l : List UInt8) (v : Int) : mailP l = some v ↔ mailD l v := by
  constructor
  · intro h
    unfold mailP at h
    rw [Option.bind_eq_some_iff] at h
    obtain ⟨w, hw, hb⟩ := h
    obtain ⟨A, kM, C, T, Z, hh, mi, s, off, hA, hk, hC, hT, rfl, hz, ht⟩ := body_inv hb
    obtain ⟨el, _⟩ := words_spec l
    unfold mailHead at hw
    split at hw
    · rename_i h6
      split at hw
      · rename_i hc
        obtain ⟨c1, c2, c3⟩ := hc
        have hw := Option.some.inj hw
        match hws : wordsP l, h6 with
        | [w0, a, b, c, d, e], _ =>
          rw [hws] at hw el c1 c2 c3
          change [a, b, c, d, e] = _ at hw
          change w0.length = 4 at c1
          change w0[3]? = some 44 at c2
          change 0 ≤ placeP (w0.take 3) weekN at c3
          obtain ⟨k, hk7, _, hwk⟩ := place_inv c3
          have e0 : w0 = weekN.getD k [] ++ [44] := by
            rw [hwk]
            match w0, c1 with
            | [x0, x1, x2, x3], _ =>
              have : x3 = 44 := by simpa using c2
              rw [this]; rfl
          refine ⟨weekN.getD k [] ++ [44, 32], A, kM, C, T, Z, hh, mi, s, off, .inr ⟨k, hk7, rfl⟩, hA, hk, hC, hT, ?_, hz, ht⟩
          rw [el, show [w0, a, b, c, d, e] = w0 :: [a, b, c, d, e] from rfl, hw, e0]
          unfold textM
          simp [joinS]
      · cases hw
    · have hw := Option.some.inj hw
      rw [hw] at el
      exact ⟨[], A, kM, C, T, Z, hh, mi, s, off, .inl rfl, hA, hk, hC, hT, el, hz, ht⟩
  · rintro ⟨pre, A, kM, C, T, Z, h, mi, s, off, hpre, hA, hk, hC, hT, rfl, hz, ht⟩
    have bA : (32 : UInt8) ∉ A := by rcases hA with h | h <;> exact dg_blank h
    have bC : (32 : UInt8) ∉ C := by rcases hC with h | h <;> exact dg_blank h
    have hw : wordsP (textM A kM C T Z) = [A, monthsN.getD kM [], C, T, Z] := by
      unfold textM
      rw [words_cons _ _ bA, words_cons _ _ (month_at kM hk).2.2, words_cons _ _ bC, words_cons _ _ (clock_blank hT), words_one _ (zoneM_blank hz)]
    unfold mailP
    rcases hpre with rfl | ⟨k, hk7, rfl⟩
    · rw [List.nil_append, hw]
      have hh : mailHead [A, monthsN.getD kM [], C, T, Z] = some [A, monthsN.getD kM [], C, T, Z] := by
        unfold mailHead
        rw [if_neg (by simp)]
      rw [hh, Option.bind_some]
      exact body_of hA hk hC hT hz ht
    · obtain ⟨w1, w2, w3⟩ := week_at k hk7
      have e : (weekN.getD k [] ++ [44, 32]) ++ textM A kM C T Z = (weekN.getD k [] ++ [44]) ++ 32 :: textM A kM C T Z := by simp
      rw [e, words_cons _ _ (by rw [List.mem_append, not_or]; exact ⟨w3, by decide⟩), hw]
      generalize weekN.getD k [] = wk at *
      have e1 : (wk ++ [44]).take 3 = wk := by rw [← w2, List.take_left]
      have e2 : (wk ++ [44])[3]? = some 44 := by rw [List.getElem?_append_right (by omega), w2]; rfl
      have hh : mailHead ((wk ++ [44]) :: [A, monthsN.getD kM [], C, T, Z]) = some [A, monthsN.getD kM [], C, T, Z] := by
        unfold mailHead
        rw [if_pos (by rfl), if_pos]
        · rfl
        · show (wk ++ [44]).length = 4 ∧ (wk ++ [44])[3]? = some 44 ∧ 0 ≤ placeP ((wk ++ [44]).take 3) weekN
          rw [e1, e2, w1, List.length_append, w2]
          exact ⟨rfl, rfl, by omega⟩
      rw [hh, Option.bind_some]
      exact body_of hA hk hC hT hz ht
end Go.Proofs.YtocmppafmaehcaaDoor
