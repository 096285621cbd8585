/-
  Of the proofs of layer 8 (elements of XML): the parts XmT XmU. No conditions.
-/
import Derived.Test.YtklcjimmbkpbdaaGreatDoorZ14
namespace Go.Proofs.YtklcjimmbkpbdaaGreatDoor
open Go.Lib

theorem pre_app {w s : Bt} (h : w.isPrefixOf s = true) (z : Bt) : w.isPrefixOf (s ++ z) = true := by
  rw [List.isPrefixOf_iff_prefix] at *
  exact h.trans (List.prefix_append _ _)
theorem pre_back {w s z : Bt} (hl : w.length ≤ s.length) (h : w.isPrefixOf (s ++ z) = true) : w.isPrefixOf s = true := by
  rw [List.isPrefixOf_iff_prefix] at *
  have := List.prefix_iff_eq_take.1 h
  rw [List.take_append_of_le_length hl] at this
  rw [this]
  exact List.take_prefix _ _
theorem word_app {w s r : Bt} (h : wordL w s = some r) (z : Bt) : wordL w (s ++ z) = some (r ++ z) := by
  have hl := word_len h
  unfold wordL at *
  split at h
  · rename_i hp
    injection h with h
    rw [if_pos (pre_app hp z), List.drop_append_of_le_length (by omega), h]
  · cases h
theorem to_app {w : Bt} : ∀ {s a r : Bt} (_ : toL w s = some (a, r)) (z : Bt), toL w (s ++ z) = some (a, r ++ z)
  | [], a, r, h, z => by cases h
  | c :: s, a, r, h, z => by
    have hl := to_len h
    rw [toL] at h
    rw [List.cons_append, toL]
    split at h
    · rename_i hp
      injection h with h
      injection h with h1 h2
      have hle := (List.isPrefixOf_iff_prefix.1 hp).length_le
      rw [if_pos (by rw [← List.cons_append]; exact pre_app hp z), ← List.cons_append, List.drop_append_of_le_length hle, h2, h1]
    · rename_i hp
      rw [if_neg (fun h2 => hp (pre_back (by omega) (by rw [← List.cons_append] at h2; exact h2)))]
      cases ht : toL w s with
      | none => rw [ht] at h; cases h
      | some x =>
        obtain ⟨a', r'⟩ := x
        rw [ht] at h
        injection h with h
        injection h with h1 h2
        rw [to_app ht z]
        simp only at h1 h2
        rw [Option.map_some, ← h1, ← h2]
theorem blanks_app {s : Bt} (h : blanksL s ≠ []) (z : Bt) : blanksL (s ++ z) = blanksL s ++ z := by
  induction s with
  | nil => exact absurd rfl h
  | cons c s ih =>
    rw [List.cons_append]
    cases hc : isBl c with
    | true =>
      rw [blanks_one hc] at h ⊢
      rw [blanks_one hc]
      exact ih h
    | false =>
      rw [blanks_id hc, blanks_id hc]
      rfl
theorem blanks_all {s : Bt} (h : blanksL s = []) (z : Bt) : blanksL (s ++ z) = blanksL z := by
  induction s with
  | nil => rfl
  | cons c s ih =>
    cases hc : isBl c with
    | true =>
      rw [blanks_one hc] at h
      rw [List.cons_append, blanks_one hc]
      exact ih h
    | false =>
      rw [blanks_id hc] at h
      cases h
theorem rem_app {s r : Bt} (h : remL s = some r) (z : Bt) : remL (s ++ z) = some (r ++ z) := by
  unfold remL at *
  cases ht : toL [45, 45] s with
  | none => rw [ht] at h; cases h
  | some x =>
    obtain ⟨a, b⟩ := x
    simp only [ht] at h
    rw [to_app ht z]
    exact word_app h z
theorem while_append {p : UInt8 → Bool} : ∀ (s z : Bt), (s.takeWhile p).length < s.length → (s ++ z).takeWhile p = s.takeWhile p
  | [], _, h => absurd h (Nat.lt_irrefl _)
  | c :: s, z, h => by
    cases hc : p c with
    | true =>
      rw [List.cons_append, List.takeWhile_cons_of_pos hc, List.takeWhile_cons_of_pos hc]
      rw [List.takeWhile_cons_of_pos hc] at h
      rw [while_append s z (by simpa using h)]
    | false => rw [List.cons_append, List.takeWhile_cons_of_neg (by simp [hc]), List.takeWhile_cons_of_neg (by simp [hc])]
theorem nameW_app {s : Bt} (h : nameW s < s.length) (z : Bt) : nameW (s ++ z) = nameW s := by
  cases s with
  | nil => cases h
  | cons c r =>
    rw [List.cons_append]
    simp only [nameW] at *
    split at h
    · rename_i hc
      rw [if_pos hc, while_append r z (by simp only [List.length_cons] at h; omega), if_pos hc]
    · rename_i hc
      rw [if_neg hc, if_neg hc]
theorem ins_app {s r : Bt} (h : insL s = some r) (z : Bt) : insL (s ++ z) = some (r ++ z) := by
  unfold insL at *
  split at h
  · cases h
  · rename_i h0
    cases ht : toL [63, 62] (s.drop (nameW s)) with
    | none => rw [ht] at h; cases h
    | some x =>
      obtain ⟨a, b⟩ := x
      rw [ht] at h
      injection h with h
      have hl := to_len ht
      rw [List.length_drop] at hl
      simp only [List.length_cons, List.length_nil] at hl
      have hw := nameW_le s
      rw [nameW_app (by omega), if_neg h0, List.drop_append_of_le_length hw, to_app ht z]
      simp only at h
      rw [Option.map_some, h]
theorem head_of {c : UInt8} {w s r : Bt} (h : wordL (c :: w) s = some r) : ∃ t, s = c :: t ∧ wordL w t = some r := by
  cases s with
  | nil => rw [word_nil] at h; cases h
  | cons d t =>
    rw [word_cons] at h
    split at h
    · rename_i e
      subst e
      exact ⟨t, rfl, h⟩
    · cases h
theorem aside_app {s r : Bt} (h : asideL s = some (some r)) (z : Bt) : asideL (s ++ z) = some (some (r ++ z)) := by
  unfold asideL at *
  cases h1 : wordL [60, 33, 45, 45] s with
  | some x =>
    simp only [h1] at h
    rw [word_app h1 z]
    cases h2 : remL x with
    | none => simp only [h2] at h; cases h
    | some y =>
      simp only [h2, Option.map_some] at h
      injection h with h
      injection h with h
      subst h
      show (remL (x ++ z)).map some = _
      rw [rem_app h2 z]
      rfl
  | none =>
    simp only [h1] at h
    cases h3 : wordL [60, 63] s with
    | some x =>
      simp only [h3] at h
      obtain ⟨t, ht, h4⟩ := head_of h3
      obtain ⟨t2, ht2, h5⟩ := head_of h4
      have h6 : wordL [60, 33, 45, 45] (s ++ z) = none := by rw [ht, ht2, List.cons_append, List.cons_append, word_cons, if_pos rfl, word_cons, if_neg (by decide)]
      rw [h6, word_app h3 z]
      cases h2 : insL x with
      | none => simp only [h2] at h; cases h
      | some y =>
        simp only [h2, Option.map_some] at h
        injection h with h
        injection h with h
        subst h
        show (insL (x ++ z)).map some = _
        rw [ins_app h2 z]
        rfl
    | none => simp only [h3] at h; cases h
theorem mark_beg {s r : Bt} {m : XN} (h : markL s = some (m, r)) : ∃ c t, s = c :: t ∧ begB c = true := by
  unfold markL at h
  split at h
  · cases h
  · rename_i h0
    cases s with
    | nil => exact absurd rfl h0
    | cons c t =>
      refine ⟨c, t, rfl, ?_⟩
      cases hb : begB c with
      | true => rfl
      | false =>
        simp only [nameW] at h0
        rw [hb] at h0
        exact absurd rfl h0
theorem mark_app {s r : Bt} {m : XN} (h : markL s = some (m, r)) (hr : r ≠ []) (z : Bt) : markL (s ++ z) = some (m, r ++ z) := by
  have hpos : 0 < r.length := List.length_pos_iff.2 hr
  unfold markL at *
  split at h
  · cases h
  · rename_i h0
    have hw := nameW_le s
    cases h1 : wordL [58] (s.drop (nameW s)) with
    | none =>
      simp only [h1] at h
      injection h with h
      injection h with h2 h3
      have hlt : nameW s < s.length := by
        have := congrArg List.length h3
        rw [List.length_drop] at this
        omega
      rw [nameW_app hlt, if_neg h0, List.drop_append_of_le_length hw, List.take_append_of_le_length hw]
      have h4 : wordL [58] (s.drop (nameW s) ++ z) = none := by
        rw [h3]
        cases r with
        | nil => exact absurd rfl hr
        | cons c t =>
          rw [h3, word_one] at h1
          rw [List.cons_append, word_one]
          split at h1
          · cases h1
          · rename_i hc
            rw [if_neg hc]
      rw [h4]
      simp only
      rw [h2, h3]
    | some x =>
      simp only [h1] at h
      split at h
      · cases h
      · rename_i hx0
        injection h with h
        injection h with h2 h3
        have hl := word_len h1
        rw [List.length_drop] at hl
        simp only [List.length_cons, List.length_nil] at hl
        have hwx := nameW_le x
        have hltx : nameW x < x.length := by
          have := congrArg List.length h3
          rw [List.length_drop] at this
          omega
        rw [nameW_app (by omega), if_neg h0, List.drop_append_of_le_length hw, List.take_append_of_le_length hw, word_app h1 z]
        simp only
        rw [nameW_app hltx, if_neg hx0, List.take_append_of_le_length hwx, List.drop_append_of_le_length hwx, h2, h3]
theorem value_app {s v r : Bt} (h : valueL s = some (v, r)) (z : Bt) : valueL (s ++ z) = some (v, r ++ z) := by
  cases s with
  | nil => cases h
  | cons q t =>
    rw [List.cons_append]
    simp only [valueL] at *
    split at h
    · rename_i hq
      rw [if_pos hq]
      cases ht : toL [q] t with
      | none => rw [ht] at h; cases h
      | some x =>
        obtain ⟨a, b⟩ := x
        simp only [ht] at h
        rw [to_app ht z]
        simp only
        split at h
        · cases h
        · rename_i h60
          rw [if_neg h60]
          cases hr : refsL (linesL a) with
          | none => rw [hr] at h; cases h
          | some y =>
            rw [hr] at h
            injection h with h
            injection h with h1 h2
            rw [Option.map_some, h1, h2]
    · cases h
theorem value_ne {s v r : Bt} (h : valueL s = some (v, r)) : s ≠ [] := by rintro rfl; cases h
theorem attr_app {s r : Bt} {m : XM} (h : attrL s = some (m, r)) (z : Bt) : attrL (s ++ z) = some (m, r ++ z) := by
  unfold attrL at *
  cases h1 : markL s with
  | none => rw [h1] at h; cases h
  | some x =>
    obtain ⟨m1, r1⟩ := x
    simp only [h1] at h
    cases h2 : wordL [61] (blanksL r1) with
    | none => rw [h2] at h; cases h
    | some r2 =>
      simp only [h2] at h
      have l2 := word_len h2
      have hb1 : blanksL r1 ≠ [] := by intro e; rw [e] at l2; simp at l2; omega
      have hr1 : r1 ≠ [] := by rintro rfl; exact hb1 rfl
      cases h3 : valueL (blanksL r2) with
      | none => rw [h3] at h; cases h
      | some y =>
        obtain ⟨v, r3⟩ := y
        rw [h3] at h
        injection h with h
        injection h with h4 h5
        rw [mark_app h1 hr1 z]
        simp only
        rw [blanks_app hb1, word_app h2 z]
        simp only
        rw [blanks_app (value_ne h3), value_app h3 z]
        simp only at h4 h5
        rw [Option.map_some, h4, h5]
theorem attr_beg {s r : Bt} {m : XM} (h : attrL s = some (m, r)) : ∃ c t, s = c :: t ∧ begB c = true := by
  unfold attrL at h
  cases h1 : markL s with
  | none => rw [h1] at h; cases h
  | some x =>
    obtain ⟨m1, r1⟩ := x
    exact mark_beg h1
theorem tag_app : ∀ (n : Nat) {s r : Bt} {ms : List XM} {c : Bool}, s.length ≤ n → tagL s = some (ms, c, r) → ∀ z, tagL (s ++ z) = some (ms, c, r ++ z)
  | 0, s, r, ms, c, hn, h, z => by
    have := tag_len h
    omega
  | n + 1, s, r, ms, c, hn, h, z => by
    rw [tagL_eq] at h
    have hb := blanks_le s
    cases h1 : wordL [47, 62] (blanksL s) with
    | some x =>
      simp only [h1] at h
      have l1 := word_len h1
      rw [tagL_eq, blanks_app (by intro e; rw [e] at l1; simp at l1; omega), word_app h1 z]
      injection h with h
      injection h with h2 h
      injection h with h3 h
      subst h2; subst h3; subst h
      rfl
    | none =>
      simp only [h1] at h
      cases h2 : wordL [62] (blanksL s) with
      | some x =>
        simp only [h2] at h
        obtain ⟨t, ht, h4⟩ := head_of h2
        have h1' : wordL [47, 62] (blanksL s ++ z) = none := by rw [ht, List.cons_append, word_cons, if_neg (by decide)]
        rw [tagL_eq, blanks_app (by rw [ht]; exact List.cons_ne_nil _ _), h1', word_app h2 z]
        injection h with h
        injection h with h2 h
        injection h with h3 h
        subst h2; subst h3; subst h
        rfl
      | none =>
        simp only [h2] at h
        split at h
        · cases h
        · rename_i hne
          cases h3 : attrL (blanksL s) with
          | none => rw [h3] at h; cases h
          | some x =>
            obtain ⟨m, r1⟩ := x
            simp only [h3] at h
            have l3 := attr_len h3
            obtain ⟨c0, t, ht, hc⟩ := attr_beg h3
            have hc' := beg_not hc
            have h1' : wordL [47, 62] (blanksL s ++ z) = none := by rw [ht, List.cons_append, word_cons, if_neg (fun e => hc'.2.1 e.symm)]
            have h2' : wordL [62] (blanksL s ++ z) = none := by rw [ht, List.cons_append, word_cons, if_neg (fun e => hc'.2.2.2.1 e.symm)]
            cases h4 : tagL r1 with
            | none => rw [h4] at h; cases h
            | some y =>
              obtain ⟨a, b, r2⟩ := y
              rw [h4] at h
              injection h with h
              injection h with h5 h
              injection h with h6 h
              rw [tagL_eq, blanks_app (by rw [ht]; exact List.cons_ne_nil _ _), h1', h2']
              simp only
              rw [if_neg (by rw [List.length_append, List.length_append]; omega), attr_app h3 z]
              simp only
              rw [tag_app n (by omega) h4 z]
              simp only at h5 h6 h
              rw [Option.map_some, h5, h6, h]
theorem drop_app {p : UInt8 → Bool} : ∀ (s z : Bt), s.dropWhile p ≠ [] → (s ++ z).dropWhile p = s.dropWhile p ++ z ∧ (s ++ z).takeWhile p = s.takeWhile p
  | [], _, h => absurd rfl h
  | c :: s, z, h => by
    cases hc : p c with
    | true =>
      rw [List.dropWhile_cons_of_pos hc] at h
      obtain ⟨i1, i2⟩ := drop_app s z h
      rw [List.cons_append, List.dropWhile_cons_of_pos hc, List.dropWhile_cons_of_pos hc, List.takeWhile_cons_of_pos hc, List.takeWhile_cons_of_pos hc, i1, i2]
      exact ⟨rfl, rfl⟩
    | false =>
      rw [List.cons_append, List.dropWhile_cons_of_neg (by simp [hc]), List.dropWhile_cons_of_neg (by simp [hc]), List.takeWhile_cons_of_neg (by simp [hc]), List.takeWhile_cons_of_neg (by simp [hc])]
      exact ⟨rfl, rfl⟩
theorem text_app {s x r : Bt} (h : textL s = some (x, r)) (z : Bt) : textL (s ++ z) = some (x, r ++ z) := by
  unfold textL at *
  split at h
  · cases h
  · rename_i hn
    have hd : s.dropWhile ltN ≠ [] := fun e => hn (.inr e)
    obtain ⟨i1, i2⟩ := drop_app s z hd
    rw [i1, i2, if_neg]
    · cases h1 : refsL (linesL (s.takeWhile ltN)) with
      | none => rw [h1] at h; cases h
      | some y =>
        rw [h1] at h
        injection h with h
        injection h with h2 h3
        rw [Option.map_some, h2, h3]
    · rintro (h2 | h2)
      · exact hn (.inl h2)
      · exact hd (List.append_eq_nil_iff.1 h2).1
theorem end_app {nm : XN} {s r : Bt} (h : endX nm s = some r) (z : Bt) : endX nm (s ++ z) = some (r ++ z) := by
  unfold endX at *
  cases h1 : wordL (writtenX nm) s with
  | none => rw [h1] at h; cases h
  | some x =>
    simp only [h1] at h
    rw [word_app h1 z]
    simp only
    have hl := word_len h
    rw [blanks_app (by intro e; rw [e] at hl; simp at hl; omega)]
    exact word_app h z
theorem elem_beg {d : Nat} {sc : XS} {s r : Bt} {v : XV} (h : elemX d sc s = .ok (v, r)) : ∃ c t, s = c :: t ∧ begB c = true := by
  rw [elemX_eq] at h
  cases h1 : markL s with
  | none => rw [h1] at h; cases h
  | some x =>
    obtain ⟨nm, s1⟩ := x
    exact mark_beg h1
theorem kids_app : ∀ (n : Nat), (∀ {d : Nat} {sc : XS} {s r : Bt} {v : XV}, s.length ≤ n → elemX d sc s = .ok (v, r) → ∀ z, elemX d sc (s ++ z) = .ok (v, r ++ z)) ∧
    (∀ {d : Nat} {sc : XS} {s r : Bt} {ks l : List XV} {t : Bt}, s.length ≤ n → kidsX d sc s ks t = .ok (l, r) → ∀ z, kidsX d sc (s ++ z) ks t = .ok (l, r ++ z))
  | 0 => by
    constructor
    · intro d sc s r v hn h
      have := elemX_len h
      omega
    · intro d sc s r ks l t hn h
      have := kidsX_len h
      omega
  | n + 1 => by
    obtain ⟨ihE, ihK⟩ := kids_app n
    constructor
    · intro d sc s r v hn h z
      rw [elemX_eq] at h
      cases h1 : markL s with
      | none => simp only [h1] at h; cases h
      | some x =>
        obtain ⟨nm, s1⟩ := x
        simp only [h1] at h
        have l1 := mark_len h1
        cases h2 : tagL s1 with
        | none => simp only [h2] at h; cases h
        | some y =>
          obtain ⟨ms, c, s2⟩ := y
          simp only [h2] at h
          have l2 := tag_len h2
          have hs1 : s1 ≠ [] := by rintro rfl; simp at l2
          rw [elemX_eq, mark_app h1 hs1 z]
          simp only
          rw [tag_app _ (Nat.le_refl _) h2 z]
          simp only
          cases h3 : startX sc nm ms with
          | none => simp only [h3] at h; cases h
          | some u =>
            obtain ⟨v0, sc'⟩ := u
            simp only [h3] at h
            simp only
            split at h
            · cases h
            · rename_i hd
              rw [if_neg hd]
              split at h
              · rename_i hc
                rw [if_pos hc]
                injection h with h
                injection h with h4 h5
                rw [h4, h5]
              · rename_i hc
                rw [if_neg hc]
                cases h4 : kidsX (d + 1) sc' s2 [] [] with
                | error e => simp only [h4] at h; cases h
                | ok q =>
                  obtain ⟨ks, s3⟩ := q
                  simp only [h4] at h
                  rw [ihK (by omega) h4 z]
                  simp only
                  cases h5 : endX nm s3 with
                  | none => simp only [h5] at h; cases h
                  | some s4 =>
                    simp only [h5] at h
                    rw [end_app h5 z]
                    simp only
                    injection h with h
                    injection h with h6 h7
                    rw [h6, h7]
    · intro d sc s r ks l t hn h z
      rw [kidsX_eq] at h
      cases h1 : wordL [60, 47] s with
      | some x =>
        simp only [h1] at h
        rw [kidsX_eq, word_app h1 z]
        injection h with h
        injection h with h6 h7
        subst h6; subst h7
        rfl
      | none =>
        simp only [h1] at h
        cases h2 : wordL cdataW s with
        | some x =>
          simp only [h2] at h
          have l2 := word_len h2
          obtain ⟨q, hq, h6⟩ := head_of h2
          obtain ⟨q2, hq2, h7⟩ := head_of h6
          have w1 : wordL [60, 47] (s ++ z) = none := by rw [hq, hq2, List.cons_append, List.cons_append, word_cons, if_pos rfl, word_cons, if_neg (by decide)]
          cases h3 : toL cdendW x with
          | none => simp only [h3] at h; cases h
          | some y =>
            obtain ⟨a, r'⟩ := y
            simp only [h3] at h
            have l3 := to_len h3
            have lc : cdataW.length = 9 := rfl
            rw [kidsX_eq, w1, word_app h2 z]
            simp only
            rw [to_app h3 z]
            exact ihK (by omega) h z
        | none =>
          simp only [h2] at h
          cases h3 : asideL s with
          | none => simp only [h3] at h; cases h
          | some o =>
            cases o with
            | some x =>
              simp only [h3] at h
              have l3 := aside_len h3
              have hb : ∃ q, s = 60 :: 33 :: 45 :: q ∨ s = 60 :: 63 :: q := by
                unfold asideL at h3
                cases h4 : wordL [60, 33, 45, 45] s with
                | some y =>
                  obtain ⟨q, hq, h6⟩ := head_of h4
                  obtain ⟨q2, hq2, h7⟩ := head_of h6
                  obtain ⟨q3, hq3, h8⟩ := head_of h7
                  exact ⟨q3, .inl (by rw [hq, hq2, hq3])⟩
                | none =>
                  simp only [h4] at h3
                  cases h5 : wordL [60, 63] s with
                  | some y =>
                    obtain ⟨q, hq, h6⟩ := head_of h5
                    obtain ⟨q2, hq2, h7⟩ := head_of h6
                    exact ⟨q2, .inr (by rw [hq, hq2])⟩
                  | none => simp only [h5] at h3; cases h3
              have w1 : wordL [60, 47] (s ++ z) = none := by
                obtain ⟨q, rfl | rfl⟩ := hb
                · rw [List.cons_append, List.cons_append, word_cons, if_pos rfl, word_cons, if_neg (by decide)]
                · rw [List.cons_append, List.cons_append, word_cons, if_pos rfl, word_cons, if_neg (by decide)]
              have w2 : wordL cdataW (s ++ z) = none := by
                show wordL (60 :: 33 :: 91 :: [67, 68, 65, 84, 65, 91]) _ = none
                obtain ⟨q, rfl | rfl⟩ := hb
                · rw [List.cons_append, List.cons_append, List.cons_append, word_cons, if_pos rfl, word_cons, if_pos rfl, word_cons, if_neg (by decide)]
                · rw [List.cons_append, List.cons_append, word_cons, if_pos rfl, word_cons, if_neg (by decide)]
              rw [kidsX_eq, w1, w2, aside_app h3 z]
              exact ihK (by omega) h z
            | none =>
              simp only [h3] at h
              cases h4 : wordL [60] s with
              | some x =>
                simp only [h4] at h
                have l4 := word_len h4
                simp only [List.length_cons, List.length_nil] at l4
                cases h5 : elemX d sc x with
                | error e => simp only [h5] at h; cases h
                | ok y =>
                  obtain ⟨v, r'⟩ := y
                  simp only [h5] at h
                  have l5 := elemX_len h5
                  obtain ⟨q, hq, h6⟩ := head_of h4
                  have hqx : q = x := by
                    unfold wordL at h6
                    simpa using h6
                  subst hqx
                  obtain ⟨c, u, hcu, hc⟩ := elem_beg h5
                  have hc' := beg_not hc
                  have w1 : wordL [60, 47] (s ++ z) = none := by rw [hq, hcu, List.cons_append, List.cons_append, word_cons, if_pos rfl, word_cons, if_neg (fun e => hc'.2.1 e.symm)]
                  have w2 : wordL cdataW (s ++ z) = none := by
                    show wordL (60 :: 33 :: [91, 67, 68, 65, 84, 65, 91]) _ = none
                    rw [hq, hcu, List.cons_append, List.cons_append, word_cons, if_pos rfl, word_cons, if_neg (fun e => hc'.1 e.symm)]
                  have w3 : asideL (s ++ z) = some none := by rw [hq, hcu, List.cons_append, List.cons_append, aside_no ⟨hc'.1, hc'.2.2.1⟩]
                  rw [kidsX_eq, w1, w2, w3, word_app h4 z]
                  simp only
                  rw [ihE (by omega) h5 z]
                  exact ihK (by omega) h z
              | none =>
                simp only [h4] at h
                cases h5 : textL s with
                | none => simp only [h5] at h; cases h
                | some y =>
                  obtain ⟨x, r'⟩ := y
                  simp only [h5] at h
                  have l5 := text_len h4 h5
                  cases s with
                  | nil => simp at l5
                  | cons c u =>
                    have hc : c ≠ 60 := by
                      intro e
                      subst e
                      rw [word_one, if_pos rfl] at h4
                      cases h4
                    have w : ∀ w : Bt, wordL (60 :: w) (c :: u ++ z) = none := fun w => by rw [List.cons_append, word_cons, if_neg (fun e => hc e.symm)]
                    have w3 : asideL (c :: u ++ z) = some none := by rw [List.cons_append, aside_lt hc]
                    rw [kidsX_eq, w, show cdataW = 60 :: [33, 91, 67, 68, 65, 84, 65, 91] from rfl, w, w3, w, text_app h5 z]
                    exact ihK (by omega) h z
theorem elem_app {d : Nat} {sc : XS} {s r : Bt} {v : XV} (h : elemX d sc s = .ok (v, r)) (z : Bt) : elemX d sc (s ++ z) = .ok (v, r ++ z) := (kids_app s.length).1 (Nat.le_refl _) h z
/-! ### Around a document -/
theorem around_app : ∀ (n : Nat) {s s1 c : Bt} {b : UInt8}, s.length ≤ n → aroundL s = some s1 → s1 = 60 :: b :: c → begB b = true → ∀ z, aroundL (s ++ z) = some (s1 ++ z)
  | n, s, s1, c, b, hn, h, h1, hb, z => by
    have hbl := blanks_le s
    rw [aroundL_eq] at h
    cases ha : asideL (blanksL s) with
    | none => simp only [ha] at h; cases h
    | some o =>
      cases o with
      | none =>
        simp only [ha] at h
        injection h with h
        have hb' := beg_not hb
        have hne : blanksL s ≠ [] := by rw [h, h1]; exact List.cons_ne_nil _ _
        have ha2 : asideL (blanksL (s ++ z)) = some none := by rw [blanks_app hne, h, h1, List.cons_append, List.cons_append, aside_no ⟨hb'.1, hb'.2.2.1⟩]
        rw [around_id ha2, blanks_app hne, h]
      | some r =>
        simp only [ha] at h
        have hl := aside_len ha
        have hne : blanksL s ≠ [] := by intro e; rw [e] at hl; simp at hl
        have ha2 : asideL (blanksL (s ++ z)) = some (some (r ++ z)) := by rw [blanks_app hne, aside_app ha z]
        rw [aroundL_eq, ha2]
        cases n with
        | zero => omega
        | succ n => exact around_app n (by omega) h h1 hb z
theorem around_tail : ∀ (n : Nat) {s : Bt}, s.length ≤ n → aroundL s = some [] → ∀ z, aroundL (s ++ z) = aroundL z
  | n, s, hn, h, z => by
    have hbl := blanks_le s
    rw [aroundL_eq] at h
    cases ha : asideL (blanksL s) with
    | none => simp only [ha] at h; cases h
    | some o =>
      cases o with
      | none =>
        simp only [ha] at h
        injection h with h
        rw [aroundL_eq, aroundL_eq z, blanks_all h]
      | some r =>
        simp only [ha] at h
        have hl := aside_len ha
        have hne : blanksL s ≠ [] := by intro e; rw [e] at hl; simp at hl
        have ha2 : asideL (blanksL (s ++ z)) = some (some (r ++ z)) := by rw [blanks_app hne, aside_app ha z]
        rw [aroundL_eq, ha2]
        cases n with
        | zero => omega
        | succ n => exact around_tail n (by omega) h z
/-- Bytes that may stand around a document. -/
def Skips (a : Bt) : Prop := ∀ s, aroundL (a ++ s) = aroundL s
theorem Skips.nil : Skips [] := fun _ => rfl
theorem Skips.append {a b : Bt} (ha : Skips a) (hb : Skips b) : Skips (a ++ b) := fun s => by rw [List.append_assoc, ha, hb]
theorem skips_of {a : Bt} (h : ∀ s, asideL (blanksL (a ++ s)) = some (some s)) : Skips a := fun s => by rw [aroundL_eq, h]
theorem skips_bl {c : UInt8} (h : isBl c = true) : Skips [c] := fun s => by
  rw [aroundL_eq, aroundL_eq s]
  rw [show ([c] ++ s : Bt) = c :: s from rfl, blanks_one h]
theorem Skips.around {a : Bt} (h : Skips a) : aroundL a = some [] := by
  have := h []
  rw [List.append_nil] at this
  rw [this, around_nil]
/-- The pieces of the law. -/
def pieceR (i : Nat) : Bt := match i % 5 with
  | 0 => [32]
  | 1 => [60, 33, 45, 45, 32, 114, 32, 45, 45, 62]
  | 2 => [60, 63, 105, 32, 100, 63, 62]
  | 3 => [10]
  | _ => [60, 33, 45, 45, 45, 45, 62]
theorem piece_cases (i : Nat) : pieceR i = [32] ∨ pieceR i = [60, 33, 45, 45, 32, 114, 32, 45, 45, 62] ∨ pieceR i = [60, 63, 105, 32, 100, 63, 62] ∨ pieceR i = [10] ∨ pieceR i = [60, 33, 45, 45, 45, 45, 62] := by
  unfold pieceR
  split
  · exact .inl rfl
  · exact .inr (.inl rfl)
  · exact .inr (.inr (.inl rfl))
  · exact .inr (.inr (.inr (.inl rfl)))
  · exact .inr (.inr (.inr (.inr rfl)))
theorem to_here {w r : Bt} (hw : w ≠ []) : toL w (w ++ r) = some ([], r) := by
  cases w with
  | nil => exact absurd rfl hw
  | cons c w =>
    rw [List.cons_append, toL, ← List.cons_append, if_pos (by rw [List.isPrefixOf_iff_prefix]; exact List.prefix_append _ _), List.drop_left]
theorem to_skip {w s a r : Bt} {c : UInt8} (h : w.isPrefixOf (c :: s) = false) (ht : toL w s = some (a, r)) : toL w (c :: s) = some (c :: a, r) := by
  rw [toL, if_neg (by rw [h]; exact Bool.false_ne_true), ht]
  rfl
theorem piece_skips (i : Nat) : Skips (pieceR i) := by
  rcases piece_cases i with h | h | h | h | h
  · rw [h]; exact skips_bl (by decide)
  · rw [h]
    refine skips_of fun s => ?_
    have h1 : toL [45, 45] (32 :: 114 :: 32 :: 45 :: 45 :: 62 :: s) = some ([32, 114, 32], 62 :: s) := to_skip rfl (to_skip rfl (to_skip rfl (to_here (w := [45, 45]) (r := 62 :: s) (List.cons_ne_nil _ _))))
    show asideL (blanksL (60 :: 33 :: 45 :: 45 :: 32 :: 114 :: 32 :: 45 :: 45 :: 62 :: s)) = _
    rw [blanks_id (by decide)]
    unfold asideL
    rw [show wordL [60, 33, 45, 45] (60 :: 33 :: 45 :: 45 :: 32 :: 114 :: 32 :: 45 :: 45 :: 62 :: s) = some (32 :: 114 :: 32 :: 45 :: 45 :: 62 :: s) from word_yes [60, 33, 45, 45] _]
    simp only
    unfold remL
    rw [h1]
    simp only
    rw [show wordL [62] (62 :: s) = some s from word_yes [62] _]
    rfl
  · rw [h]
    refine skips_of fun s => ?_
    show asideL (blanksL (60 :: 63 :: 105 :: 32 :: 100 :: 63 :: 62 :: s)) = _
    rw [blanks_id (by decide)]
    unfold asideL
    rw [word_cons, if_pos rfl, word_cons, if_neg (by decide)]
    simp only
    rw [show wordL [60, 63] (60 :: 63 :: 105 :: 32 :: 100 :: 63 :: 62 :: s) = some (105 :: 32 :: 100 :: 63 :: 62 :: s) from word_yes [60, 63] _]
    simp only
    have hw : nameW (105 :: 32 :: 100 :: 63 :: 62 :: s) = 1 := by
      simp only [nameW]
      rw [if_pos (by decide), List.takeWhile_cons_of_neg (by decide)]
      rfl
    have h1 : toL [63, 62] (32 :: 100 :: 63 :: 62 :: s) = some ([32, 100], s) := to_skip rfl (to_skip rfl (to_here (w := [63, 62]) (r := s) (List.cons_ne_nil _ _)))
    unfold insL
    rw [hw, if_neg (by decide)]
    show ((toL [63, 62] (32 :: 100 :: 63 :: 62 :: s)).map (·.2)).map some = _
    rw [h1]
    rfl
  · rw [h]; exact skips_bl (by decide)
  · rw [h]
    refine skips_of fun s => ?_
    have h1 : toL [45, 45] (45 :: 45 :: 62 :: s) = some ([], 62 :: s) := to_here (w := [45, 45]) (r := 62 :: s) (List.cons_ne_nil _ _)
    show asideL (blanksL (60 :: 33 :: 45 :: 45 :: 45 :: 45 :: 62 :: s)) = _
    rw [blanks_id (by decide)]
    unfold asideL
    rw [show wordL [60, 33, 45, 45] (60 :: 33 :: 45 :: 45 :: 45 :: 45 :: 62 :: s) = some (45 :: 45 :: 62 :: s) from word_yes [60, 33, 45, 45] _]
    simp only
    unfold remL
    rw [h1]
    simp only
    rw [show wordL [62] (62 :: s) = some s from word_yes [62] _]
    rfl
theorem piece_pt (i : Nat) : PT (pieceR i) := by
  rcases piece_cases i with h | h | h | h | h <;> rw [h] <;> exact PT.ascii (by decide)
theorem piece_len (i : Nat) : (pieceR i).length ≤ 10 ∧ 1 ≤ (pieceR i).length := by
  rcases piece_cases i with h | h | h | h | h <;> rw [h] <;> decide
/-- What stands ahead and behind after some pieces. -/
def aheadR : Nat → Bt
  | 0 => []
  | i + 1 => aheadR i ++ pieceR i
def behindR : Nat → Bt
  | 0 => []
  | i + 1 => pieceR i ++ behindR i
theorem ahead_skips : ∀ n, Skips (aheadR n) ∧ Skips (behindR n) ∧ PT (aheadR n) ∧ PT (behindR n) ∧ (aheadR n).length ≤ 10 * n ∧ (behindR n).length ≤ 10 * n
  | 0 => ⟨Skips.nil, Skips.nil, PT.nil, PT.nil, Nat.le_refl _, Nat.le_refl _⟩
  | n + 1 => by
    obtain ⟨a1, a2, a3, a4, a5, a6⟩ := ahead_skips n
    have hp := piece_len n
    refine ⟨a1.append (piece_skips n), (piece_skips n).append a2, a3.append (piece_pt n), (piece_pt n).append a4, ?_, ?_⟩
    · rw [aheadR, List.length_append]; omega
    · rw [behindR, List.length_append]; omega
theorem ahead_beg : ∀ n, aheadR (n + 1) ≠ [] ∧ ∃ c t, aheadR (n + 1) = c :: t ∧ c.toNat < 128
  | 0 => ⟨by decide, 32, [], rfl, by decide⟩
  | n + 1 => by
    obtain ⟨_, c, t, h, hc⟩ := ahead_beg n
    rw [aheadR, h]
    exact ⟨List.cons_ne_nil _ _, c, t ++ pieceR (n + 1), rfl, hc⟩
/-- A document that is read, with something behind. -/
theorem doc_app {s a z : Bt} {v : XV} (h : docX s = (v, 0)) (ha : Skips a) : docX (a ++ s ++ z) = (if aroundL z = some [] then (v, 0) else (zeroX, 70)) ∧ 3 ≤ s.length := by
  unfold docX at h
  cases h1 : aroundL s with
  | none => simp only [h1] at h; injection h with _ h; cases h
  | some s1 =>
    simp only [h1] at h
    cases h2 : wordL [60] s1 with
    | none => simp only [h2] at h; injection h with _ h; cases h
    | some s2 =>
      simp only [h2] at h
      cases h3 : elemX 0 scope0 s2 with
      | error e =>
        simp only [h3] at h
        injection h with _ h
        subst h
        exfalso
        rw [elemX_eq] at h3
        have key : ∀ n, (∀ d sc s, elemN n d sc s ≠ .error 0) ∧ (∀ d sc s ks t, kidsN n d sc s ks t ≠ .error 0) := by
          intro n
          induction n with
          | zero => exact ⟨fun d sc s h => (by rw [elemN] at h; cases h), fun d sc s ks t h => (by rw [kidsN] at h; cases h)⟩
          | succ n ih =>
            obtain ⟨i1, i2⟩ := ih
            constructor
            · intro d sc s h
              rw [elemN] at h
              repeat' split at h
              all_goals first | (cases h; done) | skip
              all_goals (rename_i h4; injection h with h; subst h; exact i2 _ _ _ _ _ h4)
            · intro d sc s ks t h
              rw [kidsN] at h
              repeat' split at h
              all_goals first | (cases h; done) | (exact i2 _ _ _ _ _ h) | skip
              all_goals (rename_i h4; injection h with h; subst h; exact i1 _ _ _ h4)
        rw [← elemX_eq] at h3
        exact (key _).1 _ _ _ h3
      | ok x =>
        obtain ⟨v', s3⟩ := x
        simp only [h3] at h
        cases h4 : aroundL s3 with
        | none => simp only [h4] at h; injection h with _ h; cases h
        | some r =>
          simp only [h4] at h
          split at h
          · rename_i hr
            subst hr
            injection h with h _
            subst h
            obtain ⟨q, hq, h6⟩ := head_of h2
            have hqx : q = s2 := by
              unfold wordL at h6
              simpa using h6
            subst hqx
            obtain ⟨c, u, hcu, hc⟩ := elem_beg h3
            have hA := around_app _ (Nat.le_refl _) h1 (by rw [hq, hcu]) hc z
            have hW : wordL [60] (s1 ++ z) = some (q ++ z) := word_app h2 z
            refine ⟨?_, ?_⟩
            · unfold docX
              rw [List.append_assoc, ha, hA]
              simp only
              rw [hW]
              simp only
              rw [elem_app h3 z]
              simp only
              rw [around_tail _ (Nat.le_refl _) h4 z]
              cases hz : aroundL z with
              | none => simp only []; rw [if_neg (by simp)]
              | some y =>
                simp only []
                by_cases hy : y = []
                · rw [if_pos hy, if_pos (by rw [hy])]
                · rw [if_neg hy, if_neg (fun e => hy (Option.some.inj e))]
            · have hle : ∀ (n : Nat) {s s1 : Bt}, s.length ≤ n → aroundL s = some s1 → s1.length ≤ s.length := by
                intro n
                induction n with
                | zero =>
                  intro s s1 hn h
                  have : s = [] := List.eq_nil_of_length_eq_zero (by omega)
                  subst this
                  rw [around_nil] at h
                  injection h with h
                  subst h
                  exact Nat.le_refl _
                | succ n ih =>
                  intro s s1 hn h
                  have hbl := blanks_le s
                  rw [aroundL_eq] at h
                  cases ha : asideL (blanksL s) with
                  | none => simp only [ha] at h; cases h
                  | some o =>
                    cases o with
                    | none =>
                      simp only [ha] at h
                      injection h with h
                      rw [← h]
                      exact hbl
                    | some r =>
                      simp only [ha] at h
                      have hl := aside_len ha
                      have := ih (by omega) h
                      omega
              have l1 := hle _ (Nat.le_refl _) h1
              rw [hq, List.length_cons] at l1
              have l3 : 2 ≤ q.length := by
                rw [elemX_eq] at h3
                cases h5 : markL q with
                | none => simp only [h5] at h3; cases h3
                | some y =>
                  obtain ⟨nm, p1⟩ := y
                  simp only [h5] at h3
                  have l1 := mark_len h5
                  cases h7 : tagL p1 with
                  | none => simp only [h7] at h3; cases h3
                  | some y =>
                    obtain ⟨ms, c, p2⟩ := y
                    have l2 := tag_len h7
                    omega
              omega
          · injection h with _ h; cases h
end Go.Proofs.YtklcjimmbkpbdaaGreatDoor
namespace Go.Proofs.YtklcjimmbkpbdaaGreatDoor
open Go.Lib

theorem parse_ok {b : Bt} {v : XV} (h : parseX b = (v, 0)) : b.length ≤ 65536 ∧ PT (unbomL b) ∧ docX (unbomL b) = (v, 0) := by
  unfold parseX at h
  split at h
  · injection h with _ h; cases h
  · split at h
    · rename_i h1 h2
      exact ⟨by omega, (plain_iff _).1 h2, h⟩
    · injection h with _ h; cases h
theorem parse_of {b : Bt} {p : XV × Int} (hl : b.length ≤ 65536) (hp : PT (unbomL b)) (h : docX (unbomL b) = p) : parseX b = p := by
  unfold parseX
  rw [if_neg (by omega), if_pos ((plain_iff _).2 hp), h]
theorem unbom_app {b : Bt} (h : 3 ≤ b.length) (z : Bt) : unbomL (b ++ z) = unbomL b ++ z := by
  unfold unbomL
  by_cases hp : bomW.isPrefixOf b = true
  · rw [if_pos hp, if_pos (pre_app hp z), List.drop_append_of_le_length h]
  · rw [if_neg hp, if_neg (fun h2 => hp (pre_back h h2))]
theorem unbom_len (b : Bt) : (unbomL b).length ≤ b.length := by
  unfold unbomL
  split
  · rw [List.length_drop]; omega
  · exact Nat.le_refl _
def zW : Bt := [60, 122, 47, 62]
theorem z_around : aroundL zW = some zW := by decide
/-- The law on remarks. -/
theorem parse_remarks {b : Bt} {v : XV} (h : parseX b = (v, 0)) (hb : b.length ≤ 3000) (n : Nat) (hn : n ≤ 8) :
    parseX ((if bomW.isPrefixOf b = true then [] else aheadR n) ++ b ++ behindR n) = (v, 0) ∧ parseX (b ++ zW) = (zeroX, 70) := by
  obtain ⟨_, h1, h2⟩ := parse_ok h
  obtain ⟨a1, a2, a3, a4, a5, a6⟩ := ahead_skips n
  obtain ⟨d1, d2⟩ := doc_app (z := behindR n) h2 Skips.nil
  have hl := unbom_len b
  rw [if_pos a2.around, List.nil_append] at d1
  constructor
  · by_cases hp : bomW.isPrefixOf b = true
    · rw [if_pos hp, List.nil_append]
      refine parse_of (by rw [List.length_append]; omega) ?_ ?_
      · rw [unbom_app (by omega)]; exact h1.append a4
      · rw [unbom_app (by omega)]; exact d1
    · rw [if_neg hp]
      have hu : unbomL b = b := by unfold unbomL; rw [if_neg hp]
      rw [hu] at h1 h2 d1
      cases n with
      | zero =>
        refine parse_of (by simp only [List.length_append]; omega) ?_ ?_
        · rw [show aheadR 0 = [] from rfl, List.nil_append, unbom_app (by rw [hu] at d2; omega), hu]; exact h1.append a4
        · rw [show aheadR 0 = [] from rfl, List.nil_append, unbom_app (by rw [hu] at d2; omega), hu]; exact d1
      | succ n =>
        obtain ⟨_, c, t, hc, hc128⟩ := ahead_beg n
        have hu2 : unbomL (aheadR (n + 1) ++ b ++ behindR (n + 1)) = aheadR (n + 1) ++ b ++ behindR (n + 1) := by
          unfold unbomL
          rw [if_neg]
          rw [hc, List.cons_append, List.cons_append]
          intro hpp
          rw [List.isPrefixOf_iff_prefix] at hpp
          have := (List.cons_prefix_cons.1 hpp).1
          subst this
          exact absurd hc128 (by decide)
        have d3 := (doc_app (z := behindR (n + 1)) h2 a1).1
        rw [if_pos a2.around] at d3
        refine parse_of (by simp only [List.length_append]; omega) ?_ ?_
        · rw [hu2]; exact (a3.append h1).append a4
        · rw [hu2]; exact d3
  · have d4 := (doc_app (z := zW) h2 Skips.nil).1
    rw [z_around, if_neg (by decide), List.nil_append] at d4
    refine parse_of (by rw [List.length_append, show zW.length = 4 from rfl]; omega) ?_ ?_
    · rw [unbom_app (by omega)]; exact h1.append (PT.ascii (by decide))
    · rw [unbom_app (by omega)]; exact d4
/-! ### Depth -/
def openP : Bt := [60, 112, 58, 97, 32, 120, 109, 108, 110, 115, 58, 112, 61, 39, 117, 39, 62]
def shutP : Bt := [60, 47, 112, 58, 97, 62]
def openQ : Bt := [60, 98, 62]
def shutQ : Bt := [60, 47, 98, 62]
/-- A text within some elements. -/
def wrapX (s : Bt) : Nat → Bt
  | 0 => s
  | i + 1 => if i % 3 = 0 then openP ++ wrapX s i ++ shutP else openQ ++ wrapX s i ++ shutQ
theorem wrap_len (s : Bt) : ∀ n, (wrapX s n).length ≤ s.length + 23 * n
  | 0 => Nat.le_refl _
  | n + 1 => by
    have := wrap_len s n
    rw [wrapX]
    split <;> simp only [List.length_append, openP, shutP, openQ, shutQ, List.length_cons, List.length_nil] <;> omega
theorem wrap_pt {s : Bt} (h : PT s) : ∀ n, PT (wrapX s n)
  | 0 => h
  | n + 1 => by
    rw [wrapX]
    split
    · exact ((PT.ascii (by decide)).append (wrap_pt h n)).append (PT.ascii (by decide))
    · exact ((PT.ascii (by decide)).append (wrap_pt h n)).append (PT.ascii (by decide))
def nextX : XS → XS := fun sc => sc ++ [([112], [117])]
theorem mark_P (r : Bt) : markL (112 :: 58 :: 97 :: 32 :: r) = some (([112], [97]), 32 :: r) := by
  have h1 : nameW (112 :: 58 :: 97 :: 32 :: r) = 1 := by
    simp only [nameW]
    rw [if_pos (by decide), List.takeWhile_cons_of_neg (by decide)]
    rfl
  have h2 : nameW (97 :: 32 :: r) = 1 := by
    simp only [nameW]
    rw [if_pos (by decide), List.takeWhile_cons_of_neg (by decide)]
    rfl
  unfold markL
  rw [h1, if_neg (by decide)]
  rw [show (112 :: 58 :: 97 :: 32 :: r).drop 1 = 58 :: 97 :: 32 :: r from rfl, show wordL [58] (58 :: 97 :: 32 :: r) = some (97 :: 32 :: r) from word_yes [58] _]
  simp only
  rw [h2, if_neg (by decide)]
  rfl
theorem tag_P (r : Bt) : tagL (32 :: 120 :: 109 :: 108 :: 110 :: 115 :: 58 :: 112 :: 61 :: 39 :: 117 :: 39 :: 62 :: r) = some ([((xmlnsW, [112]), [117])], false, r) := by
  have h1 : nameW (120 :: 109 :: 108 :: 110 :: 115 :: 58 :: 112 :: 61 :: 39 :: 117 :: 39 :: 62 :: r) = 5 := by
    simp only [nameW]
    rw [if_pos (by decide)]
    rw [List.takeWhile_cons_of_pos (by decide), List.takeWhile_cons_of_pos (by decide), List.takeWhile_cons_of_pos (by decide), List.takeWhile_cons_of_pos (by decide), List.takeWhile_cons_of_neg (by decide)]
    rfl
  have h2 : nameW (112 :: 61 :: 39 :: 117 :: 39 :: 62 :: r) = 1 := by
    simp only [nameW]
    rw [if_pos (by decide), List.takeWhile_cons_of_neg (by decide)]
    rfl
  have hm : markL (120 :: 109 :: 108 :: 110 :: 115 :: 58 :: 112 :: 61 :: 39 :: 117 :: 39 :: 62 :: r) = some ((xmlnsW, [112]), 61 :: 39 :: 117 :: 39 :: 62 :: r) := by
    unfold markL
    rw [h1, if_neg (by decide)]
    rw [show (120 :: 109 :: 108 :: 110 :: 115 :: 58 :: 112 :: 61 :: 39 :: 117 :: 39 :: 62 :: r).drop 5 = 58 :: 112 :: 61 :: 39 :: 117 :: 39 :: 62 :: r from rfl, show wordL [58] (58 :: 112 :: 61 :: 39 :: 117 :: 39 :: 62 :: r) = some (112 :: 61 :: 39 :: 117 :: 39 :: 62 :: r) from word_yes [58] _]
    simp only
    rw [h2, if_neg (by decide)]
    rfl
  have hv : valueL (39 :: 117 :: 39 :: 62 :: r) = some ([117], 62 :: r) := by
    simp only [valueL]
    rw [if_pos (by simp), show toL [39] (117 :: 39 :: 62 :: r) = some ([117], 62 :: r) from to_one 39 (62 :: r) [117] (by decide)]
    simp only
    rw [if_neg (by decide), show refsL (linesL [117]) = some [117] by decide]
    rfl
  have ha : attrL (120 :: 109 :: 108 :: 110 :: 115 :: 58 :: 112 :: 61 :: 39 :: 117 :: 39 :: 62 :: r) = some (((xmlnsW, [112]), [117]), 62 :: r) := by
    unfold attrL
    rw [hm]
    simp only
    rw [blanks_id (by decide), show wordL [61] (61 :: 39 :: 117 :: 39 :: 62 :: r) = some (39 :: 117 :: 39 :: 62 :: r) from word_yes [61] _]
    simp only
    rw [blanks_id (by decide), hv]
    rfl
  rw [tagL_eq, blanks_one (by decide), blanks_id (by decide), word_cons, if_neg (by decide)]
  simp only
  rw [word_cons, if_neg (by decide)]
  simp only
  rw [if_neg (by simp only [List.length_cons]; omega), ha]
  simp only
  rw [tagL_eq, blanks_id (by decide), word_cons, if_neg (by decide)]
  simp only
  rw [show wordL [62] (62 :: r) = some r from word_yes [62] _]
  rfl
theorem mark_Q (r : Bt) : markL (98 :: 62 :: r) = some (([], [98]), 62 :: r) := mark_plain (nm := [98]) (c := 62) (by decide) (by decide) (by decide)
theorem tag_Q (r : Bt) : tagL (62 :: r) = some ([], false, r) := by
  rw [tagL_eq, blanks_id (by decide), word_cons, if_neg (by decide)]
  simp only
  rw [show wordL [62] (62 :: r) = some r from word_yes [62] _]
theorem start_P (sc : XS) : startX sc ([112], [97]) [((xmlnsW, [112]), [117])] = some (.mk [117] [97] [] [] [], sc ++ [([112], [117])]) := by
  unfold startX scopeX
  have e1 : declsX [((xmlnsW, [112]), [117])] = [([112], [117])] := by decide
  have e2 : othersX [((xmlnsW, [112]), [117])] = [] := by decide
  rw [e1, e2, if_neg (by decide)]
  simp only
  rw [find_snoc, if_pos rfl]
  rfl
theorem start_Q {sc : XS} {ar : Bt} (h : findX sc [] = some ar) : startX sc ([], [98]) [] = some (.mk ar [98] [] [] [], sc) := by
  unfold startX scopeX
  have e1 : declsX [] = [] := rfl
  have e2 : othersX [] = [] := rfl
  rw [e1, e2, if_neg (by decide)]
  simp only
  rw [List.append_nil, h]
  rfl
theorem kids_err {d : Nat} {sc : XS} {c : UInt8} {t : Bt} {e : Int} (hc : begB c = true) (h : elemX d sc (c :: t) = .error e) (ks : List XV) (x : Bt) : kidsX d sc (60 :: c :: t) ks x = .error e := by
  have hc' := beg_not hc
  have w1 : wordL [60, 47] (60 :: c :: t) = none := by rw [word_cons, if_pos rfl, word_cons, if_neg (fun e => hc'.2.1 e.symm)]
  have w2 : wordL cdataW (60 :: c :: t) = none := by
    show wordL (60 :: 33 :: [91, 67, 68, 65, 84, 65, 91]) _ = none
    rw [word_cons, if_pos rfl, word_cons, if_neg (fun e => hc'.1 e.symm)]
  rw [kidsX_eq, w1, w2, aside_no ⟨hc'.1, hc'.2.2.1⟩, show wordL [60] (60 :: c :: t) = some (c :: t) from word_yes [60] _]
  simp only
  rw [h]
theorem wrap_beg (s : Bt) (i : Nat) : ∃ c t, wrapX s (i + 1) = 60 :: c :: t ∧ begB c = true := by
  rw [wrapX]
  split
  · exact ⟨112, _, rfl, by decide⟩
  · exact ⟨98, _, rfl, by decide⟩
/-- Too many elements within one another. -/
theorem wrap_deep (s : Bt) : ∀ (i d : Nat) (sc : XS) (ar r : Bt), 24 ≤ d + i → d ≤ 24 → findX sc [] = some ar → elemX d sc ((wrapX s (i + 1)).drop 1 ++ r) = .error 71
  | i, d, sc, ar, r, h, hd, har => by
    rw [elemX_eq]
    by_cases hi : i % 3 = 0
    · have e : (wrapX s (i + 1)).drop 1 ++ r = 112 :: 58 :: 97 :: 32 :: 120 :: 109 :: 108 :: 110 :: 115 :: 58 :: 112 :: 61 :: 39 :: 117 :: 39 :: 62 :: (wrapX s i ++ (shutP ++ r)) := by
        rw [wrapX, if_pos hi, List.append_assoc]
        show (openP.drop 1 ++ (wrapX s i ++ shutP)) ++ r = _
        rw [List.append_assoc, List.append_assoc]
        rfl
      rw [e, mark_P]
      simp only
      rw [tag_P]
      simp only
      rw [start_P]
      simp only
      by_cases h24 : d = 24
      · rw [if_pos h24]
      · rw [if_neg h24, if_neg (by decide)]
        cases i with
        | zero => omega
        | succ i =>
          obtain ⟨c, t, hw, hc⟩ := wrap_beg s i
          have ih := wrap_deep s i (d + 1) (sc ++ [([112], [117])]) ar (shutP ++ r) (by omega) (by omega) (by rw [find_snoc, if_neg (by decide)]; exact har)
          rw [hw] at ih ⊢
          have := kids_err (t := t ++ (shutP ++ r)) hc ih [] []
          rw [show (60 :: c :: t ++ (shutP ++ r) : Bt) = 60 :: c :: (t ++ (shutP ++ r)) from rfl, this]
    · have e : (wrapX s (i + 1)).drop 1 ++ r = 98 :: 62 :: (wrapX s i ++ (shutQ ++ r)) := by
        rw [wrapX, if_neg hi, List.append_assoc]
        show (openQ.drop 1 ++ (wrapX s i ++ shutQ)) ++ r = _
        rw [List.append_assoc, List.append_assoc]
        rfl
      rw [e, mark_Q]
      simp only
      rw [tag_Q]
      simp only
      rw [start_Q har]
      simp only
      by_cases h24 : d = 24
      · rw [if_pos h24]
      · rw [if_neg h24, if_neg (by decide)]
        cases i with
        | zero => omega
        | succ i =>
          obtain ⟨c, t, hw, hc⟩ := wrap_beg s i
          have ih := wrap_deep s i (d + 1) sc ar (shutQ ++ r) (by omega) (by omega) har
          rw [hw] at ih ⊢
          have := kids_err (t := t ++ (shutQ ++ r)) hc ih [] []
          rw [show (60 :: c :: t ++ (shutQ ++ r) : Bt) = 60 :: c :: (t ++ (shutQ ++ r)) from rfl, this]
/-- The law on depth. -/
theorem parse_deep {s : Bt} (hs : PT s) (hl : s.length ≤ 300) (n : Nat) (h1 : 24 < n) (h2 : n < 60) : parseX (wrapX s n) = (zeroX, 71) := by
  obtain ⟨i, rfl⟩ : ∃ i, n = i + 1 := ⟨n - 1, by omega⟩
  have hle := wrap_len s (i + 1)
  obtain ⟨c, t, hw, hc⟩ := wrap_beg s i
  have hc' := beg_not hc
  have hu : unbomL (wrapX s (i + 1)) = wrapX s (i + 1) := by
    unfold unbomL
    rw [hw, if_neg (by simp [bomW, List.isPrefixOf])]
  refine parse_of (by omega) (by rw [hu]; exact wrap_pt hs _) ?_
  rw [hu]
  have hd := wrap_deep s i 0 scope0 [] [] (by omega) (by omega) (by decide)
  rw [List.append_nil, hw] at hd
  unfold docX
  rw [hw, around_id (by rw [blanks_id (by decide), aside_no ⟨hc'.1, hc'.2.2.1⟩]), blanks_id (by decide)]
  simp only
  rw [show wordL [60] (60 :: c :: t) = some (c :: t) from word_yes [60] _]
  simp only
  rw [show (c :: t : Bt) = (60 :: c :: t).drop 1 from rfl, hd]
end Go.Proofs.YtklcjimmbkpbdaaGreatDoor
