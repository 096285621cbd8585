/-
  Values of JSON, plain: reading with the steps that its length gives; the program's way with numbers. No conditions.
-/
import Derived.Test.YtchgelfomnbpaaaDoorZ06
namespace Go.Proofs.YtchgelfomnbpaaaDoor
open Go.Lib

def valX (depth : Nat) (s : Bt) : Except Int (JV × Bt) := valJ (2 * s.length + 1) depth s
def loopX : LoopF := fun depth obj ns vs s => loopJ (2 * s.length + 2) depth obj ns vs s
theorem valX_eq (depth : Nat) (s : Bt) : valX depth s = valS loopX depth s := by
  unfold valX
  rw [valJ_succ]
  exact valS_congr fun obj t ht => (fuelJ _ _).2 _ _ _ _ _ (by omega) (by omega)
theorem valX_len {depth : Nat} {s : Bt} {v : JV} {r : Bt} (h : valX depth s = .ok (v, r)) : r.length < s.length := (lenJ _).1 _ _ _ _ h
theorem loopX_len {depth : Nat} {obj : Bool} {ns : List Bt} {vs : List JV} {s : Bt} {v : JV} {r : Bt} (h : loopX depth obj ns vs s = .ok (v, r)) : r.length < s.length := (lenJ _).2 _ _ _ _ _ _ _ h
theorem loopX_eq (depth : Nat) (obj : Bool) (ns : List Bt) (vs : List JV) (s : Bt) : loopX depth obj ns vs s = loopS valX loopX depth obj ns vs s := by
  unfold loopX
  show loopJ (2 * s.length + 1 + 1) depth obj ns vs s = _
  rw [loopJ_succ]
  exact loopS_congr (fun t ht => (fuelJ _ _).1 _ _ (by omega) (by omega)) (fun t v r h => valX_len h) (fun ns vs t ht => (fuelJ _ _).2 _ _ _ _ _ (by omega) (by omega))
theorem parseX (b : Bt) : parseJ b = if 65536 < b.length then .error 72 else match valX 0 b with | .error e => .error e | .ok (v, r) => if blanksL r = [] then .ok v else .error 70 := by
  by_cases h : 65536 < b.length
  · rw [if_pos h]
    unfold parseJ
    rw [if_pos h]
  · rw [if_neg h, parse_at b (by omega) _ (Nat.le_refl _)]
    rfl
/-! ### Numbers, the program's way -/
def digF (s : Bt) : Option Bt := if dgL s = 0 then none else some (s.drop (dgL s))
def wholeF (s : Bt) : Option Bt := if s.head? = some 48 then some (s.drop 1) else digF s
def fracF (s : Bt) : Option Bt := if s.head? = some 46 then digF (s.drop 1) else some s
def expF (s : Bt) : Option Bt := if s.head? = some 101 ∨ s.head? = some 69 then digF (s.drop (1 + expSL (s.drop 1))) else some s
/-- What stands behind the number at the front. -/
def numF (s : Bt) : Option Bt := match wholeF (s.drop (signL s)) with | none => none | some r => match fracF r with | none => none | some r => expF r
theorem dg_at {s : Bt} : ∀ j, j < dgL s → ∃ c, s[j]? = some c ∧ isD 10 c = true := by
  intro j hj
  unfold dgL at hj
  have h1 : (s.takeWhile (isD 10))[j]? = some (s.takeWhile (isD 10))[j] := List.getElem?_eq_getElem hj
  refine ⟨(s.takeWhile (isD 10))[j], ?_, ?_⟩
  · have h2 : (s.takeWhile (isD 10) ++ s.dropWhile (isD 10))[j]? = some (s.takeWhile (isD 10))[j] := by
      rw [List.getElem?_append_left hj]
      exact h1
    rw [List.takeWhile_append_dropWhile] at h2
    exact h2
  · have := List.all_takeWhile (p := isD 10) (l := s)
    rw [List.all_eq_true] at this
    exact this _ (List.getElem_mem hj)
theorem digit_ne {c : UInt8} (h : isD 10 c = true) : c ≠ 46 ∧ c ≠ 101 ∧ c ≠ 69 ∧ c ≠ 45 ∧ c ≠ 44 ∧ c ≠ 93 ∧ c ≠ 125 ∧ isBl c = false := by
  obtain ⟨h1, h2⟩ := digit_bd h
  have ne : ∀ d : UInt8, (d.toNat < 48 ∨ 57 < d.toNat) → c ≠ d := fun d hd e => by subst e; omega
  refine ⟨ne _ (by decide), ne _ (by decide), ne _ (by decide), ne _ (by decide), ne _ (by decide), ne _ (by decide), ne _ (by decide), ?_⟩
  unfold isBl
  simp only [Bool.or_eq_false_iff, beq_eq_false_iff_ne]
  exact ⟨⟨⟨ne _ (by decide), ne _ (by decide)⟩, ne _ (by decide)⟩, ne _ (by decide)⟩
theorem num_two (s : Bt) : (numLen s ≠ 0 → numF s = some (s.drop (numLen s))) ∧ (numLen s = 0 → numF s = none ∨ ∃ c r, numF s = some (c :: r) ∧ isD 10 c = true) := by
  obtain ⟨i, hi⟩ : ∃ i, signL s = i := ⟨_, rfl⟩
  obtain ⟨u, hu⟩ : ∃ u, s.drop i = u := ⟨_, rfl⟩
  obtain ⟨n, hn⟩ : ∃ n, dgL u = n := ⟨_, rfl⟩
  have hF : numF s = match wholeF u with | none => none | some r => match fracF r with | none => none | some r => expF r := by
    unfold numF
    rw [hi, hu]
  have hL : numLen s = if n = 0 ∨ (u.head? = some 48 ∧ 1 < n) then 0 else match fracL (s.drop (i + n)) with
      | none => 0
      | some f => match expL (s.drop (i + n + f)) with
        | none => 0
        | some e => i + n + f + e := by
    unfold numLen
    dsimp only
    rw [hi, hu, hn]
    rfl
  have hdrop : ∀ k, s.drop (i + k) = u.drop k := fun k => by rw [← hu, List.drop_drop]
  by_cases h0 : n = 0
  · rw [if_pos (.inl h0)] at hL
    refine ⟨fun h => absurd hL h, fun _ => .inl ?_⟩
    have hh : u.head? ≠ some 48 := fun h => by
      cases u with
      | nil => cases h
      | cons c r =>
        have : c = 48 := Option.some.inj h
        subst this
        unfold dgL at hn
        rw [List.takeWhile_cons_of_pos (by decide)] at hn
        simp at hn
        omega
    rw [hF]
    unfold wholeF digF
    rw [if_neg hh, hn, if_pos h0]
  · by_cases h48 : u.head? = some 48 ∧ 1 < n
    · rw [if_pos (.inr h48)] at hL
      refine ⟨fun h => absurd hL h, fun _ => .inr ?_⟩
      obtain ⟨c, hc, hd⟩ := dg_at (s := u) 1 (by rw [hn]; exact h48.2)
      have hc' : ∃ r, u.drop 1 = c :: r := by
        cases u with
        | nil => cases hc
        | cons a t =>
          cases t with
          | nil => cases hc
          | cons b t =>
            refine ⟨t, ?_⟩
            have : b = c := by simpa using hc
            subst this
            rfl
      obtain ⟨r, hr⟩ := hc'
      obtain ⟨n1, n2, n3, _⟩ := digit_ne hd
      refine ⟨c, r, ?_, hd⟩
      rw [hF]
      unfold wholeF
      rw [if_pos h48.1, hr]
      dsimp only
      unfold fracF
      have e1 : ¬ (c :: r).head? = some 46 := fun h => n1 (Option.some.inj h)
      rw [if_neg e1]
      dsimp only
      unfold expF
      have e2 : ¬ ((c :: r).head? = some 101 ∨ (c :: r).head? = some 69) := fun h => h.elim (fun h => n2 (Option.some.inj h)) (fun h => n3 (Option.some.inj h))
      rw [if_neg e2]
    · rw [if_neg (fun h => h.elim h0 h48)] at hL
      have hw : wholeF u = some (u.drop n) := by
        unfold wholeF
        by_cases h : u.head? = some 48
        · rw [if_pos h]
          have : n = 1 := by
            have h1 : ¬ 1 < n := fun h1 => h48 ⟨h, h1⟩
            clear hL
            omega
          rw [this]
        · rw [if_neg h]
          unfold digF
          rw [hn, if_neg h0]
      rw [hw] at hF
      dsimp only at hF
      rw [hdrop] at hL
      obtain ⟨x, hx⟩ : ∃ x, u.drop n = x := ⟨_, rfl⟩
      rw [hx] at hF hL
      have hf : fracF x = (fracL x).map fun f => x.drop f := by
        unfold fracF fracL digF
        split
        · split
          · rfl
          · show _ = some (x.drop (dgL (x.drop 1) + 1))
            rw [List.drop_drop, Nat.add_comm]
        · rfl
      cases hfl : fracL x with
      | none =>
        rw [hfl] at hL hf
        rw [hf] at hF
        exact ⟨fun h => absurd hL h, fun _ => .inl hF⟩
      | some f =>
        rw [hfl] at hL hf
        rw [hf] at hF
        dsimp only [Option.map] at hF hL
        have hxd : s.drop (i + n + f) = x.drop f := by rw [Nat.add_assoc, hdrop, ← hx, List.drop_drop]
        rw [hxd] at hL
        obtain ⟨y, hy⟩ : ∃ y, x.drop f = y := ⟨_, rfl⟩
        rw [hy] at hF hL
        have he : expF y = (expL y).map fun e => y.drop e := by
          unfold expF expL digF
          split
          · split
            · rfl
            · show _ = some (y.drop (1 + expSL (y.drop 1) + dgL (y.drop (1 + expSL (y.drop 1)))))
              rw [List.drop_drop]
          · rfl
        cases hel : expL y with
        | none =>
          rw [hel] at hL he
          rw [he] at hF
          exact ⟨fun h => absurd hL h, fun _ => .inl hF⟩
        | some e =>
          rw [hel] at hL he
          rw [he] at hF
          dsimp only [Option.map] at hF hL
          have hL2 : numLen s = i + n + f + e := hL
          refine ⟨fun _ => ?_, fun h => absurd (hL2.symm.trans h) (by omega)⟩
          rw [hF, hL, ← hy, ← hxd, List.drop_drop]
theorem num_all (t : Bt) : (decide (t ≠ [] ∧ numLen t = t.length)) = (numF t == some []) := by
  obtain ⟨h1, h2⟩ := num_two t
  by_cases h : numLen t = 0
  · have hl : decide (t ≠ [] ∧ numLen t = t.length) = false := by
      refine decide_eq_false fun ⟨h3, h4⟩ => h3 ?_
      rw [h] at h4
      exact List.length_eq_zero_iff.1 h4.symm
    rw [hl]
    rcases h2 h with h2 | ⟨c, r, h2, _⟩ <;> rw [h2] <;> rfl
  · rw [h1 h]
    have hle := numLen_le t
    by_cases hl : numLen t = t.length
    · have : t ≠ [] := fun e => by subst e; exact h hl
      rw [decide_eq_true ⟨this, hl⟩, hl, List.drop_length]
      rfl
    · rw [decide_eq_false fun h => hl h.2]
      have : t.drop (numLen t) ≠ [] := fun e => by
        have := congrArg List.length e
        rw [List.length_drop] at this
        simp at this
        omega
      symm
      rw [beq_eq_false_iff_ne]
      exact fun e => this (Option.some.inj e)
end Go.Proofs.YtchgelfomnbpaaaDoor
