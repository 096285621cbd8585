/-
  Values of JSON, plain: what is read is no larger than the text; a second value behind one. No conditions.
-/
import Derived.Test.YtchgelfomnbpaaaDoorZ08
import Derived.Test.YtchgelfomnbpaaaDoorZ22
namespace Go.Proofs.YtchgelfomnbpaaaDoor
open Go.Lib

theorem sizes_app : ∀ (a b : List JV), sizesJ (a ++ b) = sizesJ a + sizesJ b
  | [], b => by simp [sizesJ]
  | v :: a, b => by rw [List.cons_append, sizesJ, sizesJ, sizes_app a b]; omega
theorem valS_size {lp : LoopF} {depth : Nat} {s : Bt} (hl : ∀ obj t v r, lp depth obj [] [] t = .ok (v, r) → sizeJ v + r.length ≤ t.length + 1) {v : JV} {r : Bt} (h : valS lp depth s = .ok (v, r)) : sizeJ v + r.length ≤ s.length := by
  have hb := blanks_le s
  unfold valS at h
  dsimp only at h
  generalize blanksL s = t at h hb
  split at h
  · rename_i hp
    have := prefix_len hp
    cases h
    rw [List.length_drop, sizeJ, sizesJ]
    simp [nullW] at this
    simp
    omega
  · split at h
    · rename_i hp
      have := prefix_len hp
      cases h
      rw [List.length_drop, sizeJ, sizesJ]
      simp [falseW] at this
      simp
      omega
    · split at h
      · rename_i hp
        have := prefix_len hp
        cases h
        rw [List.length_drop, sizeJ, sizesJ]
        simp [trueW] at this
        simp
        omega
      · split at h
        · cases ht : textL t with
          | none => rw [ht] at h; cases h
          | some y =>
            obtain ⟨x, r'⟩ := y
            rw [ht] at h
            cases h
            have := text_len ht
            rw [sizeJ, sizesJ]
            simp
            omega
        · split at h
          · split at h
            · cases h
            · rename_i hn
              cases h
              rw [List.length_drop, sizeJ, sizesJ]
              cases t with
              | nil => exact absurd numLen_nil hn
              | cons c t =>
                simp at hb ⊢
                omega
          · rename_i h34 hbr
            split at h
            · cases h
            · cases t with
              | nil => simp at hbr
              | cons c t =>
                have h2 := blanks_le t
                simp only [List.drop_succ_cons, List.drop_zero, List.length_cons] at h hb
                split at h
                · rename_i hd
                  cases h
                  have hp : 0 < (blanksL t).length := by
                    cases hq : blanksL t with
                    | nil => rw [hq] at hd; cases hd
                    | cons a b => simp
                  rw [List.length_drop, sizeJ, sizesJ]
                  simp
                  omega
                · have := hl _ _ _ _ h
                  omega
theorem loopS_size {vj : ValF} {lp : LoopF} {depth : Nat} {obj : Bool} {ns : List Bt} {vs : List JV} {s : Bt} (hv : ∀ t v r, vj (depth + 1) t = .ok (v, r) → sizeJ v + r.length ≤ t.length) (hl : ∀ ns vs t v r, lp depth obj ns vs t = .ok (v, r) → sizeJ v + r.length ≤ t.length + sizesJ vs + ns.length + 1) {v : JV} {r : Bt} (h : loopS vj lp depth obj ns vs s = .ok (v, r)) : sizeJ v + r.length ≤ s.length + sizesJ vs + ns.length + 1 := by
  unfold loopS at h
  cases hn : namesL obj ns s with
  | none => rw [hn] at h; cases h
  | some y =>
    obtain ⟨ns', t⟩ := y
    have h1 := names_len hn
    have h1b : ns'.length ≤ ns.length + 1 := by
      cases obj with
      | false => rw [((names_stay hn).1 rfl).1]; omega
      | true => obtain ⟨x, _, e⟩ := (names_stay hn).2 rfl; rw [e]; simp
    rw [hn] at h
    dsimp only at h
    cases hj : vj (depth + 1) t with
    | error e => rw [hj] at h; cases h
    | ok z =>
      obtain ⟨v', u⟩ := z
      have h2 := hv t v' u hj
      have h3 := blanks_le u
      rw [hj] at h
      dsimp only at h
      cases hb : blanksL u with
      | nil => rw [hb] at h; cases h
      | cons c r2 =>
        rw [hb] at h h3
        simp only [List.length_cons] at h3
        dsimp only at h
        split at h
        · cases h
          rw [sizeJ, sizes_app, sizesJ, sizesJ]
          omega
        · split at h
          · cases h
          · have := hl _ _ _ _ _ h
            rw [sizes_app, sizesJ, sizesJ] at this
            omega
theorem sizeP : ∀ n, (∀ depth s v r, valJ n depth s = .ok (v, r) → sizeJ v + r.length ≤ s.length) ∧ (∀ depth obj ns vs s v r, loopJ n depth obj ns vs s = .ok (v, r) → sizeJ v + r.length ≤ s.length + sizesJ vs + ns.length + 1)
  | 0 => ⟨(fun depth s v r h => by rw [valJ] at h; cases h), (fun depth obj ns vs s v r h => by rw [loopJ] at h; cases h)⟩
  | n + 1 => by
    obtain ⟨h1, h2⟩ := sizeP n
    refine ⟨fun depth s v r h => ?_, fun depth obj ns vs s v r h => ?_⟩
    · rw [valJ_succ] at h
      exact valS_size (fun obj t v r h => by have := h2 _ _ _ _ _ _ _ h; simp [sizesJ] at this; omega) h
    · rw [loopJ_succ] at h
      exact loopS_size (fun t v r h => h1 _ _ _ _ h) (fun ns vs t v r h => h2 _ _ _ _ _ _ _ h) h
theorem parse_size {b : Bt} {v : JV} (h : parseJ b = .ok v) : sizeJ v ≤ b.length ∧ b.length ≤ 65536 := by
  rw [parseX] at h
  split at h
  · cases h
  · rename_i hb
    cases hv : valX 0 b with
    | error e => rw [hv] at h; cases h
    | ok y =>
      obtain ⟨v', r⟩ := y
      rw [hv] at h
      dsimp only at h
      split at h
      · cases h
        have := (sizeP _).1 _ _ _ _ hv
        omega
      · cases h
mutual
theorem depth_size : ∀ v : JV, depthJ v ≤ sizeJ v
  | .mk k t ns l => by
    have := depths_size l
    rw [depthJ, sizeJ]
    split <;> omega
theorem depths_size : ∀ l : List JV, depthsJ l ≤ sizesJ l
  | [] => by rw [depthsJ]; omega
  | v :: l => by
    have h1 := depth_size v
    have h2 := depths_size l
    rw [depthsJ, sizesJ]
    omega
end
def IsErr (e : Int) : Prop := e = 70 ∨ e = 71 ∨ e = 72
theorem valS_bad {lp : LoopF} {depth : Nat} {s : Bt} (hl : ∀ obj t e, lp depth obj [] [] t = .error e → IsErr e) {e : Int} (h : valS lp depth s = .error e) : IsErr e := by
  unfold valS at h
  dsimp only at h
  generalize blanksL s = t at h
  split at h
  · cases h
  · split at h
    · cases h
    · split at h
      · cases h
      · split at h
        · cases ht : textL t with
          | none => rw [ht] at h; cases h; exact .inl rfl
          | some y => rw [ht] at h; cases h
        · split at h
          · split at h
            · cases h; exact .inl rfl
            · cases h
          · split at h
            · cases h; exact .inr (.inl rfl)
            · split at h
              · cases h
              · exact hl _ _ _ h
theorem loopS_bad {vj : ValF} {lp : LoopF} {depth : Nat} {obj : Bool} {ns : List Bt} {vs : List JV} {s : Bt} (hv : ∀ t e, vj (depth + 1) t = .error e → IsErr e) (hl : ∀ ns vs t e, lp depth obj ns vs t = .error e → IsErr e) {e : Int} (h : loopS vj lp depth obj ns vs s = .error e) : IsErr e := by
  unfold loopS at h
  cases hn : namesL obj ns s with
  | none => rw [hn] at h; cases h; exact .inl rfl
  | some y =>
    obtain ⟨ns', t⟩ := y
    rw [hn] at h
    dsimp only at h
    cases hj : vj (depth + 1) t with
    | error e' => rw [hj] at h; cases h; exact hv _ _ hj
    | ok z =>
      obtain ⟨v', u⟩ := z
      rw [hj] at h
      dsimp only at h
      cases hb : blanksL u with
      | nil => rw [hb] at h; cases h; exact .inl rfl
      | cons c r2 =>
        rw [hb] at h
        dsimp only at h
        split at h
        · cases h
        · split at h
          · cases h; exact .inl rfl
          · exact hl _ _ _ _ h
theorem badP : ∀ n, (∀ depth s e, valJ n depth s = .error e → IsErr e) ∧ (∀ depth obj ns vs s e, loopJ n depth obj ns vs s = .error e → IsErr e)
  | 0 => ⟨(fun depth s e h => by rw [valJ] at h; cases h; exact .inl rfl), (fun depth obj ns vs s e h => by rw [loopJ] at h; cases h; exact .inl rfl)⟩
  | n + 1 => by
    obtain ⟨h1, h2⟩ := badP n
    refine ⟨fun depth s e h => ?_, fun depth obj ns vs s e h => ?_⟩
    · rw [valJ_succ] at h
      exact valS_bad (fun obj t e h => h2 _ _ _ _ _ _ h) h
    · rw [loopJ_succ] at h
      exact loopS_bad (fun t e h => h1 _ _ _ h) (fun ns vs t e h => h2 _ _ _ _ _ _ h) h
theorem parse_err {b : Bt} {e : Int} (h : parseJ b = .error e) : IsErr e := by
  rw [parseX] at h
  split at h
  · cases h; exact .inr (.inr rfl)
  · cases hv : valX 0 b with
    | error e' => rw [hv] at h; cases h; exact (badP _).1 _ _ _ hv
    | ok y =>
      obtain ⟨v', r⟩ := y
      rw [hv] at h
      dsimp only at h
      split at h
      · cases h
      · cases h; exact .inl rfl
theorem parse_nz {b : Bt} {e : Int} (h : parseJ b = .error e) : ¬ e = 0 := by
  rcases parse_err h with rfl | rfl | rfl <;> decide
theorem parse_null {b : Bt} {v : JV} (h : parseJ b = .ok v) (hl : b.length ≤ 3000) : parseJ (b ++ [32, 110, 117, 108, 108]) = .error 70 :=
  parse_two h (fun c hc => by cases hc; decide) (by decide) (by simp; omega)
end Go.Proofs.YtchgelfomnbpaaaDoor
