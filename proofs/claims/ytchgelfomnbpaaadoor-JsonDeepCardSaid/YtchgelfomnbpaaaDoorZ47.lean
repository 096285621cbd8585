/-
  The document's value of JSON behind a bracket: what a round of its loop does, plain. No conditions.
-/
import Derived.Test.YtchgelfomnbpaaaDoorZ46
namespace Go.Proofs.YtchgelfomnbpaaaDoor
open Go.Lib

theorem brk_head {t : Bt} {obj : Bool} (h : t.head? = some (opnB obj)) : t = opnB obj :: t.drop 1 := by
  cases t with
  | nil => cases h
  | cons c u => rw [Option.some.inj h]; rfl
theorem brk_word {t : Bt} {obj : Bool} (h : t.head? = some (opnB obj)) {b : UInt8} (hb : b ≠ opnB obj) (ws : Bt) : List.isPrefixOf (b :: ws) t = false := by
  rw [brk_head h]
  exact pre_ne hb _ _
/-- Behind a value of a list or an object. -/
theorem behind2 {d : Nat} {obj : Bool} {ns ns' : List Bt} {vs : List JV} {u s1 r : Bt} {v : JV} (hn : namesL obj ns u = some (ns', s1)) (hv : valX (d + 1) s1 = .ok (v, r)) :
    (∀ x, blanksL r = endC obj :: x → loopX d obj ns vs u = .ok (.mk (kindC obj) [] ns' (vs ++ [v]), x)) ∧
    (∀ x, blanksL r = 44 :: x → loopX d obj ns vs u = loopX d obj ns' (vs ++ [v]) x) ∧
    ((blanksL r).head? ≠ some (endC obj) → (blanksL r).head? ≠ some 44 → loopX d obj ns vs u = .error 70) := by
  obtain ⟨g1, g2, g3⟩ := loopX_good (vs := vs) hn hv
  refine ⟨fun x hx => g2 x hx, fun x hx => g1 x hx, fun h1 h2 => g3 ?_ ?_⟩
  · cases hp : ([44] : Bt).isPrefixOf (blanksL r) with
    | false => rfl
    | true => exact absurd (pre_head.1 hp) h2
  · cases hp : ([endC obj] : Bt).isPrefixOf (blanksL r) with
    | false => rfl
    | true => exact absurd (pre_head.1 hp) h1
theorem names_false (ns : List Bt) (s : Bt) : namesL false ns s = some (ns, s) := rfl
theorem names_yes {ns : List Bt} {s t x r u : Bt} (ht : blanksL s = t) (hx : textL t = some (x, r)) (h : blanksL r = 58 :: u) : namesL true ns s = some (ns ++ [x], u) := by
  unfold namesL
  rw [if_pos rfl, member_text (by rw [ht]; exact hx), h]
  rfl
theorem names_no {ns : List Bt} {s t x r : Bt} (ht : blanksL s = t) (hx : textL t = some (x, r)) (h : (blanksL r).head? ≠ some 58) : namesL true ns s = none := by
  unfold namesL
  rw [if_pos rfl, member_text (by rw [ht]; exact hx)]
  cases hb : blanksL r with
  | nil => rfl
  | cons c u =>
    rw [hb] at h
    dsimp only
    rw [if_neg (fun e => h (by rw [e]; rfl))]
    rfl
theorem drop_succ7 {s : Bt} {k : Nat} {c : UInt8} {x : Bt} (h : s.drop k = c :: x) : s.drop (k + 1) = x ∧ k < s.length := by
  refine ⟨?_, ?_⟩
  · rw [← List.drop_drop, h]; rfl
  · refine Nat.lt_of_not_le fun hl => ?_
    rw [List.drop_of_length_le hl] at h
    cases h
theorem head_some {t : Bt} {c : UInt8} (h : t.head? = some c) : t = c :: t.drop 1 := by
  cases t with
  | nil => cases h
  | cons a u => rw [Option.some.inj h]; rfl
theorem ins_head {d : Nat} {obj : Bool} {r : Bt} (hd : d ≠ 24) : insF d obj r = if (blanksL r).head? = some (endC obj) then .ok (.mk (kindC obj) [] [] [], (blanksL r).drop 1) else loopX d obj [] [] (blanksL r) := by
  unfold insF
  rw [if_neg hd]
end Go.Proofs.YtchgelfomnbpaaaDoor
