/-
  Links: the document's way to take a text apart, in plain functions; it is parseL. No program text.
-/
import Derived.Test.YtlgggibdgfdmhaaGreatDoorPC
import Derived.Test.YtlgggibdgfdmhaaGreatDoorPD
import Derived.Test.YtlgggibdgfdmhaaGreatDoorLkT
namespace Go.Proofs.YtlgggibdgfdmhaaGreatDoor
open Go.RowKit
open Go.Lib

theorem until_mid (a t ch : List UInt8) (c : UInt8) (ha : ∀ x ∈ a, ch.contains x = false) (hc : ch.contains c = true) : untilL (a ++ c :: t) ch = a.length :=
  until_stop _ ch a.length (by simp) (by simp only [List.take_left]; rw [List.all_eq_true]; intro x hx; rw [ha x hx]; rfl) (.inr ⟨c, by rw [List.getElem?_append_right (Nat.le_refl _), Nat.sub_self]; rfl, hc⟩)
theorem until_all (a ch : List UInt8) (ha : ∀ x ∈ a, ch.contains x = false) : untilL a ch = a.length :=
  until_stop _ ch a.length (Nat.le_refl _) (by rw [List.take_length, List.all_eq_true]; intro x hx; rw [ha x hx]; rfl) (.inl rfl)
theorem until_app (a r ch : List UInt8) (ha : ∀ x ∈ a, ch.contains x = false) (hr : ∀ c t, r = c :: t → ch.contains c = true) : untilL (a ++ r) ch = a.length := by
  cases r with
  | nil => rw [List.append_nil]; exact until_all a ch ha
  | cons c t => exact until_mid a t ch c ha (hr c t rfl)
theorem until_le (l ch : List UInt8) : untilL l ch ≤ l.length := by
  unfold untilL
  have h := congrArg List.length (List.takeWhile_append_dropWhile (p := fun c => !ch.contains c) (l := l))
  rw [List.length_append] at h; omega
theorem until_take (l ch : List UInt8) : l.take (untilL l ch) = l.takeWhile (fun c => !ch.contains c) := by
  unfold untilL
  have h := takeWhile_drop (fun c => !ch.contains c) l
  conv => lhs; arg 2; rw [← h]
  exact List.take_left
theorem until_no (l ch : List UInt8) : ∀ x ∈ l.take (untilL l ch), ch.contains x = false := fun x hx => by
  rw [until_take] at hx
  have := List.all_eq_true.1 (takeWhile_all (fun c => !ch.contains c) l) x hx
  simpa using this
theorem until_next (l ch : List UInt8) : ∀ c t, l.drop (untilL l ch) = c :: t → ch.contains c = true := fun c t h => by
  have := takeWhile_next (fun c => !ch.contains c) l c t h
  simpa using this

def rPort (r : List UInt8) : Option (Nat × List UInt8) :=
  if r.head? = some 58 then
    (if (digs 10 5 (r.drop 1)).length = 0 ∨ (r.drop 1).head? = some 48 ∨ 65535 < valD 10 (digs 10 5 (r.drop 1)) then none
     else some ((valD 10 (digs 10 5 (r.drop 1))).toNat, (r.drop 1).drop (digs 10 5 (r.drop 1)).length))
  else some (0, r)
def rFrag (a h : List UInt8) (n : Nat) (pa qu : List UInt8) (hq : Bool) (r : List UInt8) : Option Lk :=
  if r = [] then some ⟨a, h, n, pa, qu, [], hq, false⟩
  else if untilL (r.drop 1) [35] < (r.drop 1).length then none else some ⟨a, h, n, pa, qu, r.drop 1, hq, true⟩
def rRest (a h : List UInt8) (n : Nat) (r : List UInt8) : Option Lk :=
  if (r.drop (untilL r [63, 35])).head? = some 63 then
    rFrag a h n (r.take (untilL r [63, 35])) (((r.drop (untilL r [63, 35])).take (untilL (r.drop (untilL r [63, 35])) [35])).drop 1) true ((r.drop (untilL r [63, 35])).drop (untilL (r.drop (untilL r [63, 35])) [35]))
  else rFrag a h n (r.take (untilL r [63, 35])) [] false (r.drop (untilL r [63, 35]))
def slashB (c : UInt8) : Bool := c == 47 || c == 63 || c == 35
def okHead : List UInt8 → Bool
  | [] => true
  | c :: _ => slashB c
def rBehind (a b : List UInt8) : Option Lk :=
  if (b.take (untilL b [58, 47, 63, 35])).all hostB = true ∧ 1 ≤ untilL b [58, 47, 63, 35] ∧ untilL b [58, 47, 63, 35] ≤ 253 then
    match rPort (b.drop (untilL b [58, 47, 63, 35])) with
    | none => none
    | some (n, r) => if okHead r && tailOk r then rRest a (b.take (untilL b [58, 47, 63, 35])) n r else none
  else none
def rParse (l : List UInt8) : Option Lk :=
  if 2048 < l.length then none
  else if schB (l.take (untilL l [58])) = true ∧ untilL l [58] + 3 ≤ l.length ∧ (l.drop (untilL l [58])).take 3 = [58, 47, 47] then rBehind (l.take (untilL l [58])) (l.drop (untilL l [58] + 3))
  else none

theorem one_no {a : List UInt8} {c : UInt8} (h : c ∉ a) : ∀ x ∈ a, ([c] : List UInt8).contains x = false := fun x hx => by
  have : x ≠ c := fun e => h (e ▸ hx)
  simp [this]
theorem host_sep {a : List UInt8} (h : a.all hostB = true) : ∀ x ∈ a, ([58, 47, 63, 35] : List UInt8).contains x = false := fun x hx => by
  cases hs : ([58, 47, 63, 35] : List UInt8).contains x with
  | false => rfl
  | true =>
    have h1 := List.all_eq_true.1 h x hx
    have hm : x ∈ ([58, 47, 63, 35] : List UInt8) := by simpa using hs
    simp at hm
    rcases hm with rfl | rfl | rfl | rfl <;> revert h1 <;> decide
/-- The document's numeral and the program's. -/
theorem dgt_same (c : UInt8) : isD 10 c = dgtB c := by
  have key : ∀ i : Fin 256, isD 10 (UInt8.ofNat i.val) = dgtB (UInt8.ofNat i.val) := by decide +kernel
  have := key ⟨c.toNat, UInt8.toNat_lt c⟩
  simpa using this
theorem dig_same (c : UInt8) (h : dgtB c = true) : digN c = ((c.toNat - 48 : Nat) : Int) := by
  have h1 := (dgtB_iff c).1 h
  unfold digN; rw [if_pos h1]; omega
theorem val_same (l : List UInt8) (h : l.all dgtB = true) : valD 10 l = (decV l : Int) := by
  have key : ∀ (l : List UInt8) (a : Nat), l.all dgtB = true → l.foldl (fun n c => n * 10 + digN c) (a : Int) = ((l.foldl (fun a c => a * 10 + (c.toNat - 48)) a : Nat) : Int) := by
    intro l
    induction l with
    | nil => intro a _; rfl
    | cons c r ih =>
      intro a hl
      rw [List.all_cons, Bool.and_eq_true] at hl
      rw [List.foldl_cons, List.foldl_cons, dig_same c hl.1, ← ih _ hl.2]
      congr 1
  exact key l 0 h
end Go.Proofs.YtlgggibdgfdmhaaGreatDoor
