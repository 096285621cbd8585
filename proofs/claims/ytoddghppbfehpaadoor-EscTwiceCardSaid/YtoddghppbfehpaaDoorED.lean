/-
  The walks of package esc's escaped, quotedPoint, isQuoted. Conditions: as each says; quotedPoint: the library's two tables hold what they are laid with.
-/
import Derived.Test.YtoddghppbfehpaaDoorEC
namespace Go.Proofs.YtoddghppbfehpaaDoor
open Go.RowKit
open Go.Lib

theorem escQ_two (l : List UInt8) (c : UInt8) (h : l[1]? = some c) : escQ l = if c = 34 then (34, 2) else if c = 92 then (92, 2) else if c = 47 then (47, 2) else if c = 98 then (8, 2) else if c = 102 then (12, 2) else if c = 110 then (10, 2) else if c = 114 then (13, 2) else if c = 116 then (9, 2) else unitsQ (unitQ l) (unitQ (l.drop 6)) := by
  unfold escQ; rw [h]; rfl
theorem escQ_u (l : List UInt8) (c : UInt8) (h : l[1]? = some c) (h1 : c ≠ 34) (h2 : c ≠ 92) (h3 : c ≠ 47) (h4 : c ≠ 98) (h5 : c ≠ 102) (h6 : c ≠ 110) (h7 : c ≠ 114) (h8 : c ≠ 116) : escQ l = unitsQ (unitQ l) (unitQ (l.drop 6)) := by
  rw [escQ_two l c h, if_neg h1, if_neg h2, if_neg h3, if_neg h4, if_neg h5, if_neg h6, if_neg h7, if_neg h8]
theorem beqF (c d : UInt8) (h : c ≠ d) : ((c.toNat : Int) == (d.toNat : Int)) = false := by
  have := u8_ne c d h
  rw [beq_eq_false_iff_ne]
  omega
set_option maxRecDepth 100000 in
theorem escaped_any (s : ByteArray) (w : World) (hs : s.size ≤ 1000000) : Calls Tryd.prog 54 #[.string s] w (Two (p0 (escQ s.data.toList)) (n0 (escQ s.data.toList)) w) := by
  by_cases h2 : s.size < 2
  · have HV := Lib.hid (show escQ s.data.toList = (-1, 0) by
      unfold escQ
      rw [List.getElem?_eq_none (by rw [← size_list]; omega)])
    go_enter Tryd.func54, Tryd.ntmps54
    go_wp2
    go_ret2
    exact Two.mk (by rw [HV.out]; rfl) (by rw [HV.out]; rfl)
  have k1 : 1 < s.size := by omega
  clear h2
  have g1 := Lib.hid (getE? s 1 k1)
  have HQ := Lib.hid (escQ_two s.data.toList s[1] g1.out)
  have hc := units_any s w hs
  by_cases a1 : s[1] = 34
  · have HV := Lib.hid (show escQ s.data.toList = (34, 2) by rw [HQ.out, a1]; rfl)
    have b : s[1].toNat = 34 := by rw [a1]; decide
    clear a1
    go_enter Tryd.func54, Tryd.ntmps54
    go_wp2
    go_ret2
    exact Two.mk (by rw [HV.out]; rfl) (by rw [HV.out]; rfl)
  by_cases a2 : s[1] = 92
  · have HV := Lib.hid (show escQ s.data.toList = (92, 2) by rw [HQ.out, a2]; rfl)
    have b : s[1].toNat = 92 := by rw [a2]; decide
    clear a1 a2
    go_enter Tryd.func54, Tryd.ntmps54
    go_wp2
    go_ret2
    exact Two.mk (by rw [HV.out]; rfl) (by rw [HV.out]; rfl)
  by_cases a3 : s[1] = 47
  · have HV := Lib.hid (show escQ s.data.toList = (47, 2) by rw [HQ.out, a3]; rfl)
    have b : s[1].toNat = 47 := by rw [a3]; decide
    clear a1 a2 a3
    go_enter Tryd.func54, Tryd.ntmps54
    go_wp2
    go_ret2
    exact Two.mk (by rw [HV.out]; rfl) (by rw [HV.out]; rfl)
  by_cases a4 : s[1] = 98
  · have HV := Lib.hid (show escQ s.data.toList = (8, 2) by rw [HQ.out, a4]; rfl)
    have b : s[1].toNat = 98 := by rw [a4]; decide
    clear a1 a2 a3 a4
    go_enter Tryd.func54, Tryd.ntmps54
    go_wp2
    go_ret2
    exact Two.mk (by rw [HV.out]; rfl) (by rw [HV.out]; rfl)
  by_cases a5 : s[1] = 102
  · have HV := Lib.hid (show escQ s.data.toList = (12, 2) by rw [HQ.out, a5]; rfl)
    have b : s[1].toNat = 102 := by rw [a5]; decide
    clear a1 a2 a3 a4 a5
    go_enter Tryd.func54, Tryd.ntmps54
    go_wp2
    go_ret2
    exact Two.mk (by rw [HV.out]; rfl) (by rw [HV.out]; rfl)
  by_cases a6 : s[1] = 110
  · have HV := Lib.hid (show escQ s.data.toList = (10, 2) by rw [HQ.out, a6]; rfl)
    have b : s[1].toNat = 110 := by rw [a6]; decide
    clear a1 a2 a3 a4 a5 a6
    go_enter Tryd.func54, Tryd.ntmps54
    go_wp2
    go_ret2
    exact Two.mk (by rw [HV.out]; rfl) (by rw [HV.out]; rfl)
  by_cases a7 : s[1] = 114
  · have HV := Lib.hid (show escQ s.data.toList = (13, 2) by rw [HQ.out, a7]; rfl)
    have b : s[1].toNat = 114 := by rw [a7]; decide
    clear a1 a2 a3 a4 a5 a6 a7
    go_enter Tryd.func54, Tryd.ntmps54
    go_wp2
    go_ret2
    exact Two.mk (by rw [HV.out]; rfl) (by rw [HV.out]; rfl)
  by_cases a8 : s[1] = 116
  · have HV := Lib.hid (show escQ s.data.toList = (9, 2) by rw [HQ.out, a8]; rfl)
    have b : s[1].toNat = 116 := by rw [a8]; decide
    clear a1 a2 a3 a4 a5 a6 a7 a8
    go_enter Tryd.func54, Tryd.ntmps54
    go_wp2
    go_ret2
    exact Two.mk (by rw [HV.out]; rfl) (by rw [HV.out]; rfl)
  have HV := Lib.hid (escQ_u s.data.toList s[1] g1.out a1 a2 a3 a4 a5 a6 a7 a8)
  have b1 : ((s[1].toNat : Int) == 34) = false := beqF _ 34 a1
  have b2 : ((s[1].toNat : Int) == 92) = false := beqF _ 92 a2
  have b3 : ((s[1].toNat : Int) == 47) = false := beqF _ 47 a3
  have b4 : ((s[1].toNat : Int) == 98) = false := beqF _ 98 a4
  have b5 : ((s[1].toNat : Int) == 102) = false := beqF _ 102 a5
  have b6 : ((s[1].toNat : Int) == 110) = false := beqF _ 110 a6
  have b7 : ((s[1].toNat : Int) == 114) = false := beqF _ 114 a7
  have b8 : ((s[1].toNat : Int) == 116) = false := beqF _ 116 a8
  clear a1 a2 a3 a4 a5 a6 a7 a8
  generalize unitsQ (unitQ s.data.toList) (unitQ (s.data.toList.drop 6)) = q at *
  go_enter Tryd.func54, Tryd.ntmps54
  go_wp2_with fail
  refine hc.mono ?_
  clear hc
  rintro e w' ⟨rfl, rfl⟩
  go_wp2
  go_ret2
  exact Two.mk (by rw [HV.out]) (by rw [HV.out])

/-- In quotes? -/
def quoted (l : List UInt8) : Bool := decide (2 ≤ l.length ∧ l[0]? = some 34 ∧ l[l.length - 1]? = some 34)
set_option maxRecDepth 100000 in
theorem isQuoted_any (s : ByteArray) (w : World) (hs : s.size ≤ 1000000) : Calls Tryd.prog 35 #[.string s] w fun e w' => e = .returned (.bool (quoted s.data.toList)) ∧ w = w' := by
  have HL := Lib.hid (size_list s)
  by_cases h2 : s.size < 2
  · have HV := Lib.hid (show quoted s.data.toList = false by unfold quoted; rw [decide_eq_false_iff_not, ← HL.out]; omega)
    go_enter Tryd.func35, Tryd.ntmps35
    go_wp2
    go_ret
    exact ⟨ret_bool (by rw [HV.out]), rfl⟩
  have k1 : 2 ≤ s.size := by omega
  clear h2
  have k0 : 0 < s.size := by omega
  have g0 := Lib.hid (getE? s 0 k0)
  by_cases a : s[0] = 34
  · obtain ⟨n, hn⟩ : ∃ n, s.size = n + 1 := ⟨s.size - 1, by omega⟩
    have kn : n < s.size := by omega
    have gn := Lib.hid (getE? s n kn)
    have HV0 := Lib.hid (show quoted s.data.toList = decide (s[n] = 34) by
      unfold quoted
      rw [← HL.out, hn, Nat.add_sub_cancel, gn.out, g0.out, a]
      rw [Bool.eq_iff_iff]
      simp
      omega)
    have b : ((s[0].toNat : Int) == 34) = true := by rw [a]; decide
    have hix : ((s.size : Nat) : Int) - 1 = (n : Nat) := by omega
    clear a
    by_cases c : s[n] = 34
    · have HV := Lib.hid (show quoted s.data.toList = true by rw [HV0.out, c]; rfl)
      have d : ((s[n].toNat : Int) == 34) = true := by rw [c]; decide
      clear c
      have Hn := Lib.hid hn
      clear hn
      go_enter Tryd.func35, Tryd.ntmps35
      go_wp2
      go_ret
      exact ⟨ret_bool (by rw [HV.out]), rfl⟩
    · have HV := Lib.hid (show quoted s.data.toList = false by rw [HV0.out, decide_eq_false_iff_not]; exact c)
      have d : ((s[n].toNat : Int) == 34) = false := beqF _ 34 c
      clear c
      have Hn := Lib.hid hn
      clear hn
      go_enter Tryd.func35, Tryd.ntmps35
      go_wp2
      go_ret
      exact ⟨ret_bool (by rw [HV.out]), rfl⟩
  · have HV := Lib.hid (show quoted s.data.toList = false by
      unfold quoted; rw [decide_eq_false_iff_not, g0.out]; rintro ⟨_, h, _⟩; exact a (by simpa using h))
    have b : ((s[0].toNat : Int) == 34) = false := beqF _ 34 a
    clear a
    go_enter Tryd.func35, Tryd.ntmps35
    go_wp2
    go_ret
    exact ⟨ret_bool (by rw [HV.out]), rfl⟩
end Go.Proofs.YtoddghppbfehpaaDoor
