/-
  The walk of the reader's lists of names. Conditions: as it says.
-/
import Derived.Test.YtocmppafmaehcaaDoorDD3
import Derived.Test.YtocmppafmaehcaaDoorDH
import Derived.Test.YtocmppafmaehcaaDoorDI
namespace Go.Proofs.YtocmppafmaehcaaDoor
open Go.RowKit
open Go.Lib

def weekB : List ByteArray := [⟨#[77, 111, 110]⟩, ⟨#[84, 117, 101]⟩, ⟨#[87, 101, 100]⟩, ⟨#[84, 104, 117]⟩, ⟨#[70, 114, 105]⟩, ⟨#[83, 97, 116]⟩, ⟨#[83, 117, 110]⟩]
def monthsB : List ByteArray := [⟨#[74, 97, 110]⟩, ⟨#[70, 101, 98]⟩, ⟨#[77, 97, 114]⟩, ⟨#[65, 112, 114]⟩, ⟨#[77, 97, 121]⟩, ⟨#[74, 117, 110]⟩, ⟨#[74, 117, 108]⟩, ⟨#[65, 117, 103]⟩, ⟨#[83, 101, 112]⟩, ⟨#[79, 99, 116]⟩, ⟨#[78, 111, 118]⟩, ⟨#[68, 101, 99]⟩]
theorem rtn (w : World) (t : TypeId) (ws : List ByteArray) : RT (w.alloc (.cells (ws.map Value.string).toArray t)) w.heap.size ws := by
  intro j hj
  have h := Blk.cell (Blk.new (.cells (ws.map Value.string).toArray t) w) j
  rw [h]
  simp [List.getElem?_eq_getElem hj]
/-- What a call leaves that answers texts in a new block. -/
def NamesOut (ws : List ByteArray) (n : Nat) (w : World) (e : Ending) (w' : World) : Prop := e = .returned (.slice (some ⟨w.heap.size, 0, none⟩) n n) ∧ RT w' w.heap.size ws ∧ Below w.heap.size w w'
theorem weekdays_any (w : World) : Calls Tryd.prog 50 #[] w (NamesOut weekB 7 w) := by
  go_enter Tryd.func50, Tryd.ntmps50
  go_wp2
  go_ret
  exact ⟨rfl, rtn w _ weekB, (Below.refl _ _).alloc (Nat.le_refl _) _⟩
theorem months_any (w : World) : Calls Tryd.prog 38 #[] w (NamesOut monthsB 12 w) := by
  go_enter Tryd.func38, Tryd.ntmps38
  go_wp2
  go_ret
  exact ⟨rfl, rtn w _ monthsB, (Below.refl _ _).alloc (Nat.le_refl _) _⟩
theorem needJ {b : Nat} {s : ByteArray} {bad v : Bool} {w : World} {l : List UInt8} (hr : Rd b s bad w) (hl : s.data.toList = l) : Calls Tryd.prog 47 #[.pointer (some ⟨b, 0, none⟩), .bool v] w (fun e w' => ∃ s', e = .returned (.tuple #[]) ∧ s'.data.toList = l ∧ Rd b s' (bad || !v) w' ∧ w.grownBy w' (some b)) :=
  (need_any b s bad v w hr).mono fun _ _ ⟨h1, h2, h3⟩ => ⟨s, h1, hl, h2, h3⟩
end Go.Proofs.YtocmppafmaehcaaDoor
