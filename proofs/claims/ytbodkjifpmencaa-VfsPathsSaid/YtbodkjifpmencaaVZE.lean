/-
  The walk of the law VfsPaths. No conditions.
-/
import Derived.Test.YtbodkjifpmencaaVZD
import Derived.Test.YtbodkjifpmencaaVC
namespace Go.Proofs.Ytbodkjifpmencaa
open Go.RowKit
open Go.Lib

set_option maxRecDepth 100000 in
theorem law_paths (s : ByteArray) (w : World) (hs : s.size ≤ 9223372036854775807) : Calls Try.prog 3 #[.string s] w fun e w' => e = .returned (.bool true) ∧ Below w.heap.size w w' := by
  obtain ⟨n, hn⟩ : ∃ n, s.size = n := ⟨_, rfl⟩
  rw [hn] at hs
  by_cases hl : 1000 < n
  · go_enter Try.func3, Try.ntmps3
    go_wp2_with (go_at_call 6; (with_reducible refine (first_any _).mono ?_); rintro e w1 ⟨rfl, b1⟩)
    go_ret
    exact ⟨rfl, b1⟩
  · have hsz : s.size ≤ 281474976710656 := by omega
    obtain ⟨r, hr⟩ : ∃ r, rightL s.data.toList = r := ⟨_, rfl⟩
    have h1 := fun W => right_any s W hsz
    have h2 := fun W => rright_any s W hsz
    rw [hr] at h1 h2
    have H1 := Lib.hid h1
    have H2 := Lib.hid h2
    clear h1 h2 hr hsz
    go_enter Try.func3, Try.ntmps3
    go_wp2_with (first
      | (go_at_call 6; (with_reducible refine (first_any _).mono ?_); rintro e w1 ⟨rfl, b1⟩)
      | (go_at_call 7; (with_reducible refine (H1.out _).mono ?_); rintro e w2 ⟨rfl, b2⟩)
      | (go_at_call 8; (with_reducible refine (H2.out _).mono ?_); rintro e w3 ⟨rfl, b3⟩))
    go_ret
    exact ⟨by simp, (b1.trans (b2.mono b1.size)).trans (b3.mono (Nat.le_trans b1.size b2.size))⟩
end Go.Proofs.Ytbodkjifpmencaa
