/-
  Plain facts of layer 4: how a text's end is settled byte by byte, and that this gives the one form of what is a link's. No conditions.
-/
import Derived.Test.YtlgggibdgfdmhaaGreatDoorLkR
namespace Go.Proofs.YtlgggibdgfdmhaaGreatDoor
open Go.Lib

def isEsc (l : List UInt8) : Bool := l.head? == some 37 && escAt (l.drop 1)
theorem isEsc3 (a b c : UInt8) (r : List UInt8) : isEsc (a :: b :: c :: r) = (a == 37 && (hexB b && hexB c)) := by
  simp [isEsc, escAt]
theorem isEsc_short (l : List UInt8) (h : l.length < 3) : isEsc l = false := by
  match l, h with
  | [], _ => rfl
  | [a], _ => simp [isEsc, escAt]
  | [a, b], _ => simp [isEsc, escAt]
def endB (l : List UInt8) : Bool := decide (3 ≤ l.length) && isEsc (l.drop (l.length - 3))
def endC (l : List UInt8) : UInt8 := byteAt (l.drop (l.length - 2))
def settleL (l : List UInt8) : List UInt8 :=
  if endB l = true then (if stays (endC l) = true then settleL (l.take (l.length - 3) ++ [endC l]) else l.take (l.length - 3) ++ pct1 (endC l)) else l
termination_by l.length
decreasing_by
  rename_i h _
  simp [endB] at h
  simp
  omega
theorem settle_no {l : List UInt8} (h : endB l = false) : settleL l = l := by rw [settleL, if_neg (by simp [h])]
theorem settle_in {l : List UInt8} (h : endB l = true) (hs : stays (endC l) = true) : settleL l = settleL (l.take (l.length - 3) ++ [endC l]) := by rw [settleL, if_pos h, if_pos hs]
theorem settle_out {l : List UInt8} (h : endB l = true) (hs : stays (endC l) = false) : settleL l = l.take (l.length - 3) ++ pct1 (endC l) := by rw [settleL, if_pos h, if_neg (by simp [hs])]
theorem end_snoc3 (p : List UInt8) (x y z : UInt8) : endB (p ++ [x, y, z]) = (x == 37 && (hexB y && hexB z)) ∧ endC (p ++ [x, y, z]) = byteAt [y, z] ∧ (p ++ [x, y, z]).take ((p ++ [x, y, z]).length - 3) = p := by
  have hl : (p ++ [x, y, z]).length = p.length + 3 := by simp
  refine ⟨?_, ?_, ?_⟩
  · unfold endB
    rw [hl, show p.length + 3 - 3 = p.length by omega, List.drop_left, isEsc3, decide_eq_true (by omega)]; simp
  · unfold endC
    rw [hl, show p.length + 3 - 2 = p.length + 1 by omega, List.drop_append, List.drop_of_length_le (by omega), show p.length + 1 - p.length = 1 by omega]; rfl
  · rw [hl, show p.length + 3 - 3 = p.length by omega, List.take_left]
theorem end_cases (l : List UInt8) : endB l = false ∨ ∃ p y z, l = p ++ [37, y, z] ∧ hexB y = true ∧ hexB z = true := by
  cases h : endB l with
  | false => exact .inl rfl
  | true =>
    right
    have h0 := h
    unfold endB at h0
    rw [Bool.and_eq_true, decide_eq_true_eq] at h0
    have hd : (l.drop (l.length - 3)).length = 3 := by rw [List.length_drop]; omega
    have e := List.take_append_drop (l.length - 3) l
    match hq : l.drop (l.length - 3), hd with
    | [x, y, z], _ =>
      rw [hq] at e
      rw [← e] at h ⊢
      rw [(end_snoc3 _ x y z).1] at h
      simp at h
      exact ⟨_, y, z, by rw [h.1], h.2.1, h.2.2⟩
/-- A percent at the end of a text in its one form has its two digits. -/
theorem norm_end (p : List UInt8) (y z : UInt8) : normB (p ++ [37, y, z]) = true → pct1 (byteAt [y, z]) = [37, y, z] := by
  refine list_ind (P := fun p => normB (p ++ [37, y, z]) = true → pct1 (byteAt [y, z]) = [37, y, z]) ?_ ?_ ?_ p
  · intro h
    rw [List.nil_append, normB_pct, Bool.and_eq_true, Bool.and_eq_true, beq_iff_eq] at h
    exact h.1.2
  · intro r he ih h
    obtain ⟨a, b, t, rfl, ha, hb⟩ := esc_cases he
    rw [List.cons_append, normB_pct, Bool.and_eq_true] at h
    exact ih h.2
  · intro c r hc ih h
    by_cases h37 : c = 37
    · subst h37
      exfalso
      rw [List.cons_append, normB_pct, Bool.and_eq_true, Bool.and_eq_true, escAt_mid r [y, z] 37 (by decide)] at h
      exact hc ⟨rfl, h.1.1⟩
    · rw [List.cons_append, normB_else _ h37, Bool.and_eq_true] at h
      exact ih h.2
theorem settle_norm (l : List UInt8) (h : normB l = true) : settleL l = l := by
  rcases end_cases l with h0 | ⟨p, y, z, rfl, hy, hz⟩
  · exact settle_no h0
  · obtain ⟨e1, e2, e3⟩ := end_snoc3 p 37 y z
    have hp := norm_end p y z h
    have hs : stays (endC (p ++ [37, y, z])) = false := by
      rw [e2]
      cases hst : stays (byteAt [y, z]) with
      | false => rfl
      | true =>
        unfold pct1 at hp
        rw [if_pos hst] at hp
        have := congrArg List.length hp
        simp at this
    rw [settle_out (by rw [e1, hy, hz]; rfl) hs, e3, e2, hp]
def unescL (acc l : List UInt8) : List UInt8 := l.foldl (fun a c => settleL (a ++ [c])) acc
theorem settle_esc (p : List UInt8) (hp : normB p = true) (a b : UInt8) (ha : hexB a = true) (hb : hexB b = true) : settleL (p ++ [37, a, b]) = p ++ pct1 (byteAt [a, b]) := by
  obtain ⟨e1, e2, e3⟩ := end_snoc3 p 37 a b
  have he : endB (p ++ [37, a, b]) = true := by rw [e1, ha, hb]; rfl
  cases hs : stays (byteAt [a, b]) with
  | false => rw [settle_out he (by rw [e2]; exact hs), e3, e2]
  | true =>
    rw [settle_in he (by rw [e2]; exact hs), e3, e2]
    have h1 : pct1 (byteAt [a, b]) = [byteAt [a, b]] := by unfold pct1; rw [if_pos hs]
    rw [h1]
    refine settle_norm _ ?_
    rw [normB_append p _ hp, ← h1]
    have := normB_pct1 (byteAt [a, b]) []
    rw [List.append_nil] at this
    rw [this, normB_nil]
theorem settle_37 (p : List UInt8) : settleL (p ++ [37]) = p ++ [37] := by
  refine settle_no ?_
  rcases end_cases (p ++ [37]) with h | ⟨q, y, z, h, hy, hz⟩
  · exact h
  · have h2 : p ++ [37] = (q ++ [37, y]) ++ [z] := by rw [h]; simp
    have h3 := (List.append_inj' h2 rfl).2
    injection h3 with h4
    subst h4; exact absurd hz (by decide)
theorem settle_37a (p : List UInt8) (a : UInt8) : settleL (p ++ [37] ++ [a]) = p ++ [37] ++ [a] := by
  refine settle_no ?_
  rcases end_cases (p ++ [37] ++ [a]) with h | ⟨q, y, z, h, hy, hz⟩
  · exact h
  · have h2 : p ++ [37, a] = (q ++ [37]) ++ [y, z] := by rw [List.append_assoc] at h; rw [show [37, a] = ([37] : List UInt8) ++ [a] from rfl, h]; simp
    have h3 := (List.append_inj' h2 rfl).2
    injection h3 with h4
    subst h4; exact absurd hy (by decide)
theorem unesc_norm (l : List UInt8) : ∀ p, normB p = true → tailOk l = true → unescL p l = p ++ normL l := by
  refine list_ind (P := fun l => ∀ p, normB p = true → tailOk l = true → unescL p l = p ++ normL l) ?_ ?_ ?_ l
  · intro p _ _; rw [normL_nil, List.append_nil]; rfl
  · intro r he ih p hp ht
    obtain ⟨a, b, t, rfl, ha, hb⟩ := esc_cases he
    rw [normL_esc he]
    show unescL (settleL (settleL (settleL (p ++ [37]) ++ [a]) ++ [b])) t = _
    rw [settle_37, settle_37a, show p ++ [37] ++ [a] ++ [b] = p ++ [37, a, b] by simp, settle_esc p hp a b ha hb]
    have htt : tailOk t = true := tail_drop2 (tailOk_tail ht)
    have hn : normB (p ++ pct1 (byteAt [a, b])) = true := by
      rw [normB_append p _ hp]
      have := normB_pct1 (byteAt [a, b]) []
      rw [List.append_nil] at this
      rw [this, normB_nil]
    have := ih _ hn htt
    rw [show (List.drop 2 (a :: b :: t)) = t from rfl] at this ⊢
    rw [this, List.append_assoc]
    rfl
  · intro c r hc ih p hp ht
    obtain ⟨h1, h2, h3⟩ := tail_cases ht
    have hne : c ≠ 37 := fun e => hc ⟨e, h2 e⟩
    have hn : normB (p ++ [c]) = true := by rw [normB_append p _ hp, normB_else _ hne, h1, normB_nil]; rfl
    rw [normL_else hc]
    show unescL (settleL (p ++ [c])) r = _
    rw [settle_norm _ hn, ih _ hn h3]
    simp
theorem unesc_tail (l : List UInt8) (h : tailOk l = true) : unescL [] l = normL l := by
  rw [unesc_norm l [] normB_nil h]; rfl
theorem settle_length (l : List UInt8) : (settleL l).length ≤ l.length := by
  induction hn : l.length using Nat.strongRecOn generalizing l with
  | _ n ih =>
    rcases end_cases l with h0 | ⟨p, y, z, rfl, hy, hz⟩
    · rw [settle_no h0]; omega
    · obtain ⟨e1, e2, e3⟩ := end_snoc3 p 37 y z
      have he : endB (p ++ [37, y, z]) = true := by rw [e1, hy, hz]; rfl
      cases hs : stays (endC (p ++ [37, y, z])) with
      | false =>
        rw [settle_out he hs, e3]
        have : (pct1 (endC (p ++ [37, y, z]))).length ≤ 3 := by unfold pct1; split <;> simp
        simp at hn ⊢; omega
      | true =>
        rw [settle_in he hs, e3]
        have := ih (p ++ [endC (p ++ [37, y, z])]).length (by simp at hn ⊢; omega) _ rfl
        simp at hn this ⊢; omega
theorem unesc_length (l : List UInt8) : ∀ p, (unescL p l).length ≤ p.length + l.length := by
  induction l with
  | nil => intro p; exact Nat.le_refl _
  | cons c r ih =>
    intro p
    have h1 := ih (settleL (p ++ [c]))
    have h2 := settle_length (p ++ [c])
    show (unescL (settleL (p ++ [c])) r).length ≤ _
    simp at h2 ⊢; omega
end Go.Proofs.YtlgggibdgfdmhaaGreatDoor
