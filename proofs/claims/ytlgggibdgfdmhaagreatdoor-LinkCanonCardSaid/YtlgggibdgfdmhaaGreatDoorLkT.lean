/-
  Links: a whole link beside any link, an empty text beside a link, what resolves is a link. No program text.
-/
import Derived.Test.YtlgggibdgfdmhaaGreatDoorKM
namespace Go.Proofs.YtlgggibdgfdmhaaGreatDoor
open Go.RowKit
open Go.Lib

theorem low_sep (c : UInt8) (h : seps.contains c = true) : lowB c = c := by
  have hm : c ∈ seps := by simpa using h
  unfold seps at hm
  simp at hm
  rcases hm with rfl | rfl | rfl | rfl <;> decide
theorem sch_sep (l : List UInt8) (h : schB l = true) : ∀ c ∈ l, seps.contains c = false := by
  intro c hc
  cases hs : seps.contains c with
  | false => rfl
  | true =>
    exfalso
    have h1 : c ∈ smallL l := by
      unfold smallL
      exact List.mem_map.2 ⟨c, hc, low_sep c hs⟩
    unfold schB at h
    rw [Bool.or_eq_true, beq_iff_eq, beq_iff_eq] at h
    rcases h with h | h <;> (rw [h] at h1; simp at h1; rcases h1 with rfl | rfl | rfl | rfl | rfl <;> revert hs <;> decide)
theorem let_low (c : UInt8) : letB (lowB c) = letB c := by
  have key : ∀ i : Fin 256, letB (lowB (UInt8.ofNat i.val)) = letB (UInt8.ofNat i.val) := by decide +kernel
  have := key ⟨c.toNat, UInt8.toNat_lt c⟩
  simpa using this
theorem sch_head (l : List UInt8) (h : schB l = true) : ∃ c r, l = c :: r ∧ letB c = true := by
  cases l with
  | nil => exact absurd h (by decide)
  | cons c r =>
    refine ⟨c, r, rfl, ?_⟩
    rw [← let_low]
    unfold schB smallL at h
    rw [Bool.or_eq_true, beq_iff_eq, beq_iff_eq] at h
    rcases h with h | h <;> (rw [List.map_cons] at h; injection h with h _; rw [h]; decide)
theorem has_print (p : Lk) (h : WF p) : hasSch (printL p) = true := by
  obtain ⟨c, r, e, hc⟩ := sch_head p.scheme h.sch
  have hp : printL p = p.scheme ++ 58 :: ([47, 47] ++ p.host ++ portL p.port ++ restL p) := by unfold printL rootL; simp [List.append_assoc]
  have hi : indexAny (printL p) seps = (p.scheme.length : Int) := by
    refine indexAny_hit (x := 58) ?_ ?_ (by decide)
    · intro j b hj hb
      rw [hp, List.getElem?_append_left hj] at hb
      exact sch_sep p.scheme h.sch b (List.mem_of_getElem? hb)
    · rw [hp, List.getElem?_append_right (Nat.le_refl _), Nat.sub_self]; rfl
  unfold hasSch
  rw [hi]
  have h0 : (printL p)[((p.scheme.length : Int)).toNat]? = some 58 := by
    rw [Int.toNat_natCast, hp, List.getElem?_append_right (Nat.le_refl _), Nat.sub_self]; rfl
  rw [h0]
  have h1 : (printL p).head? = some c := by rw [hp, e]; rfl
  rw [h1]
  have h2 : (0 : Int) < (p.scheme.length : Int) := by rw [e]; simp
  have h3 : 0 < p.scheme.length := by omega
  simp [h3, hc]
theorem resolve_whole (x : Lk) {l : List UInt8} {y : Lk} (h : parseL l = some y) : resolveL x l = some y := by
  obtain ⟨h1, h2, _⟩ := parseL_some h
  have hs : hasSch l = true := by rw [h1]; exact has_print y h2
  unfold resolveL againstL
  rw [if_pos hs]
  simp only
  rw [h]
  rfl
theorem rest_bare (x : Lk) : restL { x with hasF := false } = restL { x with hasF := false, frag := [] } := by
  unfold restL markL; simp
theorem print_bare (x : Lk) : printL { x with hasF := false } = printL { x with hasF := false, frag := [] } := by
  unfold printL; rw [rest_bare]; rfl
theorem wf_bare {x : Lk} (h : WF x) : WF { x with hasF := false, frag := [] } := by
  refine ⟨h.sch, h.host, h.host1, h.host2, h.port, h.path, ?_, h.pathQ, h.pathF, h.quF, by simp, h.noQ, fun _ => rfl⟩
  have ht := h.tail
  unfold restL at ht ⊢
  simp only [markL, Bool.false_eq_true, if_false, List.append_nil]
  cases hf : x.hasF with
  | false => rw [hf] at ht; simpa [markL] using ht
  | true =>
    rw [hf] at ht
    simp only [markL, if_true] at ht
    rw [tailOk_mid _ _ 35 (by decide), Bool.and_eq_true] at ht
    exact ht.1
theorem resolve_nil {l : List UInt8} {x : Lk} (h : parseL l = some x) : resolveL x [] = some { x with hasF := false, frag := [] } := by
  obtain ⟨h1, h2, h3⟩ := parseL_some h
  have hs : hasSch [] = false := by decide
  have hl : (printL { x with hasF := false, frag := [] }).length ≤ 2048 := by
    have : (printL { x with hasF := false, frag := [] }).length ≤ (printL x).length := by
      unfold printL restL
      rw [List.length_append, List.length_append]
      have : (rootL { x with hasF := false, frag := [] }) = rootL x := rfl
      rw [this]
      simp [markL]
    rw [← h1] at this; omega
  unfold resolveL againstL
  rw [hs]
  simp only [List.append_nil]
  rw [print_bare, if_neg (by simp), if_neg (by decide), if_neg (by decide), if_pos (by decide)]
  simp only
  rw [parseL_print (wf_bare h2) hl]
  rfl
theorem resolve_link {x : Lk} {l : List UInt8} {r : Lk} (h : resolveL x l = some r) : WF r ∧ (printL r).length ≤ 2048 := by
  unfold resolveL at h
  cases hp : parseL (againstL x l).1 with
  | none => rw [hp] at h; cases h
  | some q =>
    rw [hp] at h
    obtain ⟨h1, h2, h3⟩ := parseL_some hp
    have hl : (printL q).length ≤ 2048 := by rw [← h1]; exact h3
    injection h with h
    rw [← h]
    split
    · have := print_dots_length q
      exact ⟨wf_dots h2, Nat.le_trans this hl⟩
    · exact ⟨h2, hl⟩
end Go.Proofs.YtlgggibdgfdmhaaGreatDoor
