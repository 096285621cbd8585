/-
  The walk of the law DateMails. Conditions: the library's table of powers of ten holds what it is laid with.
-/
import Derived.Test.YtocmppafmaehcaaDoorRM
import Derived.Test.YtocmppafmaehcaaDoorLA
namespace Go.Proofs.YtocmppafmaehcaaDoor
open Go.RowKit
open Go.Lib

set_option maxRecDepth 100000 in
set_option maxHeartbeats 1000000 in
theorem law_mails (s : ByteArray) (w : World) (hT : Tab w) : Calls Tryd.prog 4 #[.string s] w (Yes w) := by
  have hf := first_any w hT
  clear hT
  by_cases h5 : 200 < s.size
  · go_enter Tryd.func4, Tryd.ntmps4
    go_wp2_with fail
    refine hf.mono ?_
    clear hf
    rintro e w1 ⟨rfl, B1⟩
    go_wp2
    go_ret
    exact ⟨rfl, B1⟩
  · have hs : s.size ≤ 200 := by omega
    clear h5
    have c2 := fun W => mailLL s W
    have c3 := fun W => rmail_any s.data.toList W (by rw [← size_list]; omega)
    rw [show (⟨s.data.toList.toArray⟩ : ByteArray) = s from rfl] at c3
    unfold AnsOut at c2
    unfold TimOut at c3
    generalize mailP s.data.toList = r at *
    cases r with
    | none =>
      unfold AnsV at c2
      unfold TimV at c3
      go_enter Tryd.func4, Tryd.ntmps4
      go_wp2_with fail
      refine hf.mono ?_
      clear hf
      rintro e w1 ⟨rfl, B1⟩
      go_wp2_with fail
      refine (c2 w1).mono ?_
      clear c2
      rintro e w2 ⟨rfl, b2⟩
      have B2 := B1.trans (b2.mono B1.size)
      go_wp2_with fail
      refine (c3 w2).mono ?_
      clear c3
      rintro e w3 ⟨rfl, b3⟩
      go_wp2
      go_ret
      exact ⟨rfl, B2.trans (b3.mono B2.size)⟩
    | some v =>
      unfold AnsV at c2
      unfold TimV at c3
      go_enter Tryd.func4, Tryd.ntmps4
      go_wp2_with fail
      refine hf.mono ?_
      clear hf
      rintro e w1 ⟨rfl, B1⟩
      go_wp2_with fail
      refine (c2 w1).mono ?_
      clear c2
      rintro e w2 ⟨rfl, b2⟩
      have B2 := B1.trans (b2.mono B1.size)
      go_wp2_with fail
      refine (c3 w2).mono ?_
      clear c3
      rintro e w3 ⟨rfl, b3⟩
      go_wp2
      go_ret
      exact ⟨rfl, B2.trans (b3.mono B2.size)⟩
end Go.Proofs.YtocmppafmaehcaaDoor
