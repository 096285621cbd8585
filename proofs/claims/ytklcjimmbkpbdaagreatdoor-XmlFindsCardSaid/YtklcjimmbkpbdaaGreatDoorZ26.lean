/-
  Documents of XML, plain: how long what is read may be. No conditions.
-/
import Derived.Test.YtklcjimmbkpbdaaGreatDoorZ13
namespace Go.Proofs.YtklcjimmbkpbdaaGreatDoor
open Go.Lib

theorem refQ_four (l : Bt) : (refQ l).2 = 0 ∨ 4 ≤ (refQ l).2 := by
  have hf : ∀ (a k : Nat) (p : Int), 1 ≤ a → (fin l a k p).2 = 0 ∨ 4 ≤ (fin l a k p).2 := fun a k p ha => by
    unfold fin
    split
    · rename_i h
      right
      have := h.1
      show 4 ≤ a + k + 2
      omega
    · exact .inl rfl
  unfold refQ
  repeat' split
  all_goals first | exact .inr (by decide) | exact hf _ _ _ (by decide) | exact .inl rfl
theorem refs_len : ∀ (n : Nat) (l x : Bt), l.length ≤ n → refsL l = some x → x.length ≤ l.length
  | 0, l, x, h, hx => by
    have : l = [] := List.eq_nil_of_length_eq_zero (by omega)
    subst this
    injection hx with hx
    subst hx
    exact Nat.le_refl _
  | n + 1, [], x, _, hx => by
    injection hx with hx
    subst hx
    exact Nat.le_refl _
  | n + 1, c :: r, x, h, hx => by
    simp only [List.length_cons] at h ⊢
    rw [refsL_cons] at hx
    split at hx
    · split at hx
      · cases hx
      · rename_i h1
        cases hr : refsL (r.drop ((refQ r).2 - 1)) with
        | none => rw [hr] at hx; cases hx
        | some y =>
          rw [hr] at hx
          injection hx with hx
          subst hx
          have hd : (r.drop ((refQ r).2 - 1)).length = r.length - ((refQ r).2 - 1) := List.length_drop
          have := refs_len n _ y (by omega) hr
          have h4 := refQ_four r
          have h0 : (refQ r).2 ≠ 0 := fun e => h1 (.inl e)
          have hok := refQ_ok r
          have he := encodeRune_length (refQ r).1
          rw [List.length_append]
          rcases hok with e | ⟨_, _, h5, _⟩
          · exact absurd (by rw [e]) h0
          · omega
    · cases hr : refsL r with
      | none => rw [hr] at hx; cases hx
      | some y =>
        rw [hr] at hx
        injection hx with hx
        subst hx
        have := refs_len n r y (by omega) hr
        simp only [List.length_cons]
        omega
theorem lines_le : ∀ (s : Bt), (linesL s).length ≤ s.length
  | [] => Nat.le_refl _
  | c :: r => by
    have := lines_le r
    unfold linesL
    split
    · split <;> simp only [List.length_cons] <;> omega
    · simp only [List.length_cons]; omega
theorem mark_parts {s r : Bt} {m : XN} (h : markL s = some (m, r)) : m.1.length + m.2.length + r.length ≤ s.length := by
  unfold markL at h
  split at h
  · cases h
  · have hl := nameW_le s
    cases h1 : wordL [58] (s.drop (nameW s)) with
    | none =>
      rw [h1] at h
      injection h with h
      injection h with e h
      rw [← h, ← e, List.length_drop]
      simp only [List.length_nil, List.length_take]
      omega
    | some x =>
      simp only [h1] at h
      split at h
      · cases h
      · injection h with h
        injection h with e h
        have := word_len h1
        have hx := nameW_le x
        rw [List.length_drop] at this
        simp only [List.length_cons, List.length_nil] at this
        rw [← h, ← e, List.length_drop]
        simp only [List.length_take]
        omega
theorem value_parts {s v r : Bt} (h : valueL s = some (v, r)) : v.length + r.length < s.length := by
  cases s with
  | nil => cases h
  | cons q t =>
    simp only [valueL] at h
    split at h
    · cases ht : toL [q] t with
      | none => rw [ht] at h; cases h
      | some x =>
        obtain ⟨a, b⟩ := x
        rw [ht] at h
        simp only at h
        split at h
        · cases h
        · cases hr : refsL (linesL a) with
          | none => rw [hr] at h; cases h
          | some y =>
            rw [hr] at h
            injection h with h
            injection h with e1 e2
            have h1 := to_len ht
            have h2 := refs_len _ _ y (Nat.le_refl _) hr
            have h3 := lines_le a
            rw [← e1, ← e2]
            simp only [List.length_cons, List.length_nil] at h1 ⊢
            omega
    · cases h
theorem attr_parts {s r : Bt} {m : XM} (h : attrL s = some (m, r)) : m.1.1.length + m.1.2.length + m.2.length + r.length < s.length := by
  unfold attrL at h
  cases h1 : markL s with
  | none => rw [h1] at h; cases h
  | some x =>
    obtain ⟨nm, s1⟩ := x
    simp only [h1] at h
    have g1 := mark_parts h1
    cases h2 : wordL [61] (blanksL s1) with
    | none => rw [h2] at h; cases h
    | some s2 =>
      simp only [h2] at h
      have g2 := word_len h2
      have b1 := blanks_le s1
      have b2 := blanks_le s2
      cases h3 : valueL (blanksL s2) with
      | none => rw [h3] at h; cases h
      | some y =>
        obtain ⟨v, r2⟩ := y
        rw [h3] at h
        injection h with h
        injection h with e1 e2
        have g3 := value_parts h3
        rw [← e1, ← e2]
        simp only [List.length_cons, List.length_nil] at g2
        simp only
        omega
theorem tag_parts : ∀ (n : Nat) {s r : Bt} {ms : List XM} {c : Bool}, s.length ≤ n → tagL s = some (ms, c, r) → (∀ m ∈ ms, m.1.1.length ≤ s.length ∧ m.1.2.length ≤ s.length ∧ m.2.length ≤ s.length) ∧ ms.length + r.length < s.length
  | 0, s, r, ms, c, hn, h => by
    have := tag_len h
    omega
  | n + 1, s, r, ms, c, hn, h => by
    have hl := tag_len h
    have hb := blanks_le s
    rw [tagL_eq] at h
    cases h1 : wordL [47, 62] (blanksL s) with
    | some x =>
      simp only [h1] at h
      injection h with h
      injection h with e1 e2
      rw [← e1]
      exact ⟨fun m hm => absurd hm List.not_mem_nil, by simp only [List.length_nil]; omega⟩
    | none =>
      simp only [h1] at h
      cases h2 : wordL [62] (blanksL s) with
      | some x =>
        simp only [h2] at h
        injection h with h
        injection h with e1 e2
        rw [← e1]
        exact ⟨fun m hm => absurd hm List.not_mem_nil, by simp only [List.length_nil]; omega⟩
      | none =>
        simp only [h2] at h
        split at h
        · cases h
        · cases h3 : attrL (blanksL s) with
          | none => rw [h3] at h; cases h
          | some y =>
            obtain ⟨m, r1⟩ := y
            simp only [h3] at h
            have g := attr_parts h3
            cases h4 : tagL r1 with
            | none => rw [h4] at h; cases h
            | some z =>
              obtain ⟨ms1, c1, r2⟩ := z
              rw [h4] at h
              injection h with h
              injection h with e1 e2
              injection e2 with e2 e3
              simp only at e1 e2 e3
              subst e1; subst e2; subst e3
              have ih := tag_parts n (by omega) h4
              refine ⟨fun m' hm => ?_, by simp only [List.length_cons]; omega⟩
              rcases List.mem_cons.1 hm with e | hm
              · rw [e]; exact ⟨by omega, by omega, by omega⟩
              · have := ih.1 m' hm
                exact ⟨by omega, by omega, by omega⟩
theorem text_parts {s x r : Bt} (h : textL s = some (x, r)) : x.length + r.length ≤ s.length := by
  unfold textL at h
  split at h
  · cases h
  · cases hr : refsL (linesL (s.takeWhile ltN)) with
    | none => rw [hr] at h; cases h
    | some y =>
      rw [hr] at h
      injection h with h
      injection h with e1 e2
      have h2 := refs_len _ _ y (Nat.le_refl _) hr
      have h3 := lines_le (s.takeWhile ltN)
      have h4 : (s.takeWhile ltN).length + (s.dropWhile ltN).length = s.length := by rw [← List.length_append, List.takeWhile_append_dropWhile]
      rw [← e1, ← e2]
      omega
end Go.Proofs.YtklcjimmbkpbdaaGreatDoor
