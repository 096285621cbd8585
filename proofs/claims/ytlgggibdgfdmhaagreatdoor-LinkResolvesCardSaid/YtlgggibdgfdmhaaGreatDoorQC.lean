/-
  Links: what the document's Resolve asks of a text, in plain functions. No program text.
-/
import Derived.Test.YtlgggibdgfdmhaaGreatDoorQB
import Derived.Test.YtlgggibdgfdmhaaGreatDoorKM
namespace Go.Proofs.YtlgggibdgfdmhaaGreatDoor
open Go.RowKit
open Go.Lib

theorem until_cons (b : UInt8) (l ch : List UInt8) : untilL (b :: l) ch = if ch.contains b then 0 else untilL l ch + 1 := by
  unfold untilL; rw [List.takeWhile_cons]; cases ch.contains b <;> simp
theorem until_index (l ch : List UInt8) : indexAny l ch = if untilL l ch < l.length then (untilL l ch : Int) else -1 := by
  induction l with
  | nil => rfl
  | cons b l ih =>
    unfold indexAny
    rw [until_cons]
    cases hc : ch.contains b with
    | true => simp
    | false =>
      rw [ih]
      by_cases h : untilL l ch < l.length
      · simp [h]
      · simp [h]
theorem has_until (l : List UInt8) : hasSch l = (decide (0 < untilL l [58, 47, 63, 35] ∧ untilL l [58, 47, 63, 35] < l.length) && (l[untilL l [58, 47, 63, 35]]? == some 58) && (match l.head? with | some c => letB c | none => false)) := by
  unfold hasSch
  rw [until_index, show seps = [58, 47, 63, 35] from rfl]
  by_cases h : untilL l [58, 47, 63, 35] < l.length
  · rw [if_pos h]; simp [h]; rfl
  · rw [if_neg h, decide_eq_false (p := (0 : Int) < -1) (by decide), decide_eq_false (p := 0 < untilL l [58, 47, 63, 35] ∧ untilL l [58, 47, 63, 35] < l.length) (fun h2 => h h2.2)]; rfl
theorem pre2 (l : List UInt8) : ([47, 47] : List UInt8).isPrefixOf l = (l.take 2 == [47, 47]) := by
  match l with
  | [] => rfl
  | [a] => simp [List.isPrefixOf]
  | a :: b :: r => simp [List.isPrefixOf]; rw [Bool.eq_iff_iff]; simp; constructor <;> (rintro ⟨h1, h2⟩; exact ⟨h1.symm, h2.symm⟩)
theorem pre1 (l : List UInt8) : ([47] : List UInt8).isPrefixOf l = (l.head? == some 47) := by
  match l with
  | [] => rfl
  | a :: r => simp [List.isPrefixOf]; rw [Bool.eq_iff_iff]; simp; exact eq_comm
section
variable {p : Lk} {l : List UInt8}
theorem res1 (h : hasSch l = true) : resolveL p l = parseL l := by
  unfold resolveL againstL; rw [if_pos h]; simp
theorem res2 (h1 : hasSch l = false) (h2 : ([47, 47] : List UInt8).isPrefixOf l = true) : resolveL p l = (parseL (p.scheme ++ [58] ++ l)).map dotL := by
  unfold resolveL againstL; rw [if_neg (by rw [h1]; decide), if_pos h2]; rfl
theorem res3 (h1 : hasSch l = false) (h2 : ([47, 47] : List UInt8).isPrefixOf l = false) (h3 : ([47] : List UInt8).isPrefixOf l = true) : resolveL p l = (parseL (rootL p ++ l)).map dotL := by
  unfold resolveL againstL; rw [if_neg (by rw [h1]; decide), if_neg (by rw [h2]; decide), if_pos h3]; rfl
theorem res4 (h1 : hasSch l = false) (h2 : ([47, 47] : List UInt8).isPrefixOf l = false) (h3 : ([47] : List UInt8).isPrefixOf l = false) (h4 : (l.isEmpty || l.head? == some 35) = true) : resolveL p l = parseL (rootL p ++ p.path ++ markL p.hasQ 63 p.query ++ l) := by
  unfold resolveL againstL
  rw [if_neg (by rw [h1]; decide), if_neg (by rw [h2]; decide), if_neg (by rw [h3]; decide), if_pos h4]
  have e : printL { p with hasF := false } = rootL p ++ p.path ++ markL p.hasQ 63 p.query := by
    unfold printL restL rootL; simp [markL, List.append_assoc]
  simp [e]
theorem res5 (h1 : hasSch l = false) (h2 : ([47, 47] : List UInt8).isPrefixOf l = false) (h3 : ([47] : List UInt8).isPrefixOf l = false) (h4 : (l.isEmpty || l.head? == some 35) = false) (h5 : l.head? = some 63) : resolveL p l = parseL (rootL p ++ p.path ++ l) := by
  unfold resolveL againstL
  rw [if_neg (by rw [h1]; decide), if_neg (by rw [h2]; decide), if_neg (by rw [h3]; decide), if_neg (by rw [h4]; decide), if_pos (by rw [h5]; rfl)]
  have e : printL { p with hasF := false, hasQ := false } = rootL p ++ p.path := by
    unfold printL restL rootL; simp [markL, List.append_assoc]
  simp [e]
theorem res6 (h1 : hasSch l = false) (h2 : ([47, 47] : List UInt8).isPrefixOf l = false) (h3 : ([47] : List UInt8).isPrefixOf l = false) (h4 : (l.isEmpty || l.head? == some 35) = false) (h5 : ¬ l.head? = some 63) : resolveL p l = (parseL (rootL p ++ folderL p.path ++ l)).map dotL := by
  unfold resolveL againstL
  rw [if_neg (by rw [h1]; decide), if_neg (by rw [h2]; decide), if_neg (by rw [h3]; decide), if_neg (by rw [h4]; decide), if_neg (by simpa using h5)]; rfl
end
/-- The place behind the last slash. -/
def slashN (l : List UInt8) : Nat := (lastS l + 1).toNat
theorem slash_hit (l : List UInt8) : slashN (l ++ [47]) = l.length + 1 := by
  unfold slashN; rw [lastS_at l [] (by simp)]; omega
theorem slash_more (l : List UInt8) (c : UInt8) (h : c ≠ 47) : slashN (l ++ [c]) = slashN l := by
  unfold slashN lastS
  rw [List.reverse_append, List.length_append]
  have e : (([c] : List UInt8).reverse ++ l.reverse).takeWhile (fun c => c != 47) = c :: l.reverse.takeWhile (fun c => c != 47) := by
    show (c :: l.reverse).takeWhile _ = _
    rw [List.takeWhile_cons, bne_iff_ne.2 h]; rfl
  rw [e]; simp; omega
theorem slash_le (l : List UInt8) : slashN l ≤ l.length := by
  unfold slashN lastS; omega
theorem last_ge (l : List UInt8) : -1 ≤ lastS l := by
  unfold lastS
  have := (List.takeWhile_prefix (p := fun c : UInt8 => c != 47) (l := l.reverse)).length_le
  rw [List.length_reverse] at this; omega
theorem folder_slash (l : List UInt8) : folderL l = if slashN l = 0 then [47] else l.take (slashN l) := by
  have := last_ge l
  unfold folderL slashN
  by_cases h : lastS l < 0
  · rw [if_pos h, if_pos (by omega)]
  · rw [if_neg h, if_neg (by omega)]
theorem let_ld {c : UInt8} (h : letB c = true) : ldB c = true ∧ ¬ c.toNat < 48 ∧ 57 < c.toNat := by
  refine ⟨by unfold ldB; rw [h]; rfl, ?_⟩
  unfold letB at h
  simp [UInt8.le_iff_toNat_le] at h
  omega
theorem ld_dgt {c : UInt8} (h : letB c = false) (h2 : ldB c = true) : ¬ c.toNat < 48 ∧ ¬ 57 < c.toNat := by
  unfold ldB at h2; rw [h, Bool.false_or] at h2
  unfold dgtB at h2
  simp [UInt8.le_iff_toNat_le] at h2
  omega
theorem no_ld {c : UInt8} (h : ldB c = false) : letB c = false := by
  unfold ldB at h; rw [Bool.or_eq_false_iff] at h; exact h.1
end Go.Proofs.YtlgggibdgfdmhaaGreatDoor
