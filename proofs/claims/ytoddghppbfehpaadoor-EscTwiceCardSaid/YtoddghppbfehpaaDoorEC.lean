/-
  The walks of package esc's unit, units, escaped, quotedPoint, isQuoted. Conditions: as each says.
-/
import Derived.Test.YtoddghppbfehpaaDoorEB
namespace Go.Proofs.YtoddghppbfehpaaDoor
open Go.RowKit
open Go.Lib

theorem getE? (s : ByteArray) (k : Nat) (h : k < s.size) : s.data.toList[k]? = some s[k] := by
  rw [List.getElem?_eq_getElem (by simpa using h)]; rfl
theorem u8_ne (c d : UInt8) (h : c ≠ d) : c.toNat ≠ d.toNat := fun e => h (UInt8.toNat_inj.1 e)
set_option maxRecDepth 100000 in
theorem unit_any (s : ByteArray) (w : World) (hs : s.size ≤ 1000000) : Calls Tryd.prog 73 #[.string s] w fun e w' => e = .returned (.int .i64 (unitQ s.data.toList)) ∧ w = w' := by
  have HL := Lib.hid (size_list s)
  by_cases h6 : s.size < 6
  · have HV := Lib.hid (show unitQ s.data.toList = -1 by unfold unitQ; rw [if_pos (.inl (by rw [← HL.out]; exact h6))])
    go_enter Tryd.func73, Tryd.ntmps73
    go_wp2
    all_goals first | (exfalso; omega) | (go_ret; exact ⟨ret_int (by rw [HV.out]), rfl⟩)
  have h7 : 6 ≤ s.size := by omega
  have k0 : 0 < s.size := by omega
  have k1 : 1 < s.size := by omega
  clear h6
  have g0 := Lib.hid (getE? s 0 k0)
  have g1 := Lib.hid (getE? s 1 k1)
  by_cases a : s[0] = 92
  · by_cases b : s[1] = 117
    · have HV := Lib.hid (show unitQ s.data.toList = numP 16 4 ((s.data.toList.drop 2).take 4) by
        unfold unitQ; rw [if_neg]; rw [g0.out, g1.out, a, b, ← HL.out]; simp; omega)
      have HX := Lib.hid (show (s.extract 2 6).data.toList = (s.data.toList.drop 2).take 4 by simp [ByteArray.data_extract])
      have a1 : ((s[0].toNat : Int) != 92) = false := by rw [a]; decide
      have b1 : ((s[1].toNat : Int) != 117) = false := by rw [b]; decide
      clear a b
      go_enter Tryd.func73, Tryd.ntmps73
      go_wp2_with (go_at_call 71; refine (number16_any _ 4 _ (by omega)).mono ?_; rintro e w' ⟨rfl, rfl⟩)
      go_ret
      exact ⟨ret_int (by rw [HV.out, ← HX.out]), rfl⟩
    · have HV := Lib.hid (show unitQ s.data.toList = -1 by unfold unitQ; rw [if_pos (.inr (.inr (by rw [g1.out]; simpa using b)))])
      have b2 := u8_ne _ _ b
      have a1 : ((s[0].toNat : Int) != 92) = false := by rw [a]; decide
      have b1 : ((s[1].toNat : Int) != 117) = true := by rw [bne_iff_ne]; intro e; exact b2 (by show _ = 117; omega)
      clear a b b2
      go_enter Tryd.func73, Tryd.ntmps73
      go_wp2
      go_ret
      exact ⟨ret_int (by rw [HV.out]), rfl⟩
  · have HV := Lib.hid (show unitQ s.data.toList = -1 by unfold unitQ; rw [if_pos (.inr (.inl (by rw [g0.out]; simpa using a)))])
    have a2 := u8_ne _ _ a
    have a1 : ((s[0].toNat : Int) != 92) = true := by rw [bne_iff_ne]; intro e; exact a2 (by show _ = 92; omega)
    clear a a2
    go_enter Tryd.func73, Tryd.ntmps73
    go_wp2
    go_ret
    exact ⟨ret_int (by rw [HV.out]), rfl⟩

/-- What is answered of a code point and its width, 0 and 0 where there is none. -/
def p0 (e : Int × Nat) : Int := if e.1 < 0 then 0 else e.1
def n0 (e : Int × Nat) : Nat := if e.1 < 0 then 0 else e.2
def unitsQ (u v : Int) : Int × Nat := if 55296 ≤ u ∧ u ≤ 56319 then (if 56320 ≤ v ∧ v ≤ 57343 then (65536 + (u - 55296) * 1024 + (v - 56320), 12) else (-1, 0)) else if isPt u = true then (u, 6) else (-1, 0)
/-- Two results. -/
def Two (p : Int) (n : Nat) (w : World) (e : Ending) (w' : World) : Prop := e = .returned (.tuple #[.int .i32 p, .int .i64 n]) ∧ w = w'
theorem Two.mk {p q : Int} {n m : Nat} {w : World} (h : p = q) (g : n = m) : Two q m w (.returned (.tuple #[.int .i32 p, .int .i64 n])) w := by subst h; subst g; exact ⟨rfl, rfl⟩
set_option maxRecDepth 100000 in
theorem units_any (s : ByteArray) (w : World) (hs : s.size ≤ 1000000) : Calls Tryd.prog 63 #[.string s] w (Two (p0 (unitsQ (unitQ s.data.toList) (unitQ (s.data.toList.drop 6)))) (n0 (unitsQ (unitQ s.data.toList) (unitQ (s.data.toList.drop 6)))) w) := by
  have hl := unitQ_len s.data.toList
  rw [← size_list s] at hl
  have hl2 : 0 ≤ unitQ s.data.toList → 6 ≤ s.size := fun h => (hl h).1
  clear hl
  have hb := unitQ_bd s.data.toList
  have hc := unit_any s w hs
  have hd : unitQ (s.extract 6 s.size).data.toList = unitQ (s.data.toList.drop 6) := by rw [drop_extract]
  have hc2 := unit_any (s.extract 6 s.size) w (by simp; omega)
  have hb2 := unitQ_bd (s.data.toList.drop 6)
  rw [hd] at hc2
  clear hd
  generalize unitQ (s.data.toList.drop 6) = v at *
  generalize unitQ s.data.toList = u at *
  by_cases h0 : u < 0
  · have HV := Lib.hid (show unitsQ u v = (-1, 0) by unfold unitsQ; rw [if_neg (by omega), if_neg (by rw [isPt_iff]; omega)])
    clear hl2
    go_enter Tryd.func63, Tryd.ntmps63
    go_wp2_with fail
    refine hc.mono ?_
    clear hc
    rintro e w' ⟨rfl, rfl⟩
    go_wp2
    go_ret2
    exact Two.mk (by rw [HV.out]; rfl) (by rw [HV.out]; rfl)
  have h1 : 0 ≤ u := by omega
  have h6 := hl2 h1
  clear hl2 h0
  cases hlo : loB u with
  | true =>
    have hq : 56320 ≤ u ∧ u ≤ 57343 := by simpa [loB] using hlo
    have HV := Lib.hid (show unitsQ u v = (-1, 0) by unfold unitsQ; rw [if_neg (by omega), if_neg (by rw [isPt_iff]; omega)])
    go_enter Tryd.func63, Tryd.ntmps63
    go_wp2_with fail
    refine hc.mono ?_
    clear hc
    rintro e w' ⟨rfl, rfl⟩
    go_wp2_with (go_at_call 74; refine (isLow_any _ _).mono ?_; rintro e w' ⟨rfl, rfl⟩)
    go_ret2
    exact Two.mk (by rw [HV.out]; rfl) (by rw [HV.out]; rfl)
  | false =>
    have hq : ¬ (56320 ≤ u ∧ u ≤ 57343) := by simpa [loB] using hlo
    cases hhi : hiB u with
    | false =>
      have hr : ¬ (55296 ≤ u ∧ u ≤ 56319) := by simpa [hiB] using hhi
      have HV := Lib.hid (show unitsQ u v = (u, 6) by unfold unitsQ; rw [if_neg (by omega), if_pos (by rw [isPt_iff]; omega)])
      have HP := Lib.hid (show p0 (u, 6) = u by unfold p0; rw [if_neg]; simp only; omega)
      have HN := Lib.hid (show n0 (u, 6) = 6 by unfold n0; rw [if_neg]; simp only; omega)
      clear hr hq
      go_enter Tryd.func63, Tryd.ntmps63
      go_wp2_with fail
      refine hc.mono ?_
      clear hc
      rintro e w' ⟨rfl, rfl⟩
      go_wp2_with (first | (go_at_call 74; refine (isLow_any _ _).mono ?_; rintro e w' ⟨rfl, rfl⟩) | (go_at_call 75; refine (isHigh_any _ _).mono ?_; rintro e w' ⟨rfl, rfl⟩))
      go_ret2
      exact Two.mk (by rw [HV.out, HP.out]) (by rw [HV.out, HN.out])
    | true =>
      have hr : 55296 ≤ u ∧ u ≤ 56319 := by simpa [hiB] using hhi
      obtain ⟨r1, r2⟩ := hr
      clear hq
      cases hlv : loB v with
      | false =>
        have hq : ¬ (56320 ≤ v ∧ v ≤ 57343) := by simpa [loB] using hlv
        have HV := Lib.hid (show unitsQ u v = (-1, 0) by unfold unitsQ; rw [if_pos (by omega), if_neg hq])
        clear hq
        go_enter Tryd.func63, Tryd.ntmps63
        go_wp2_with fail
        refine hc.mono ?_
        clear hc
        rintro e w' ⟨rfl, rfl⟩
        go_wp2_with (first | (go_at_call 74; refine (isLow_any _ _).mono ?_; rintro e w' ⟨rfl, rfl⟩) | (go_at_call 75; refine (isHigh_any _ _).mono ?_; rintro e w' ⟨rfl, rfl⟩))
        refine hc2.mono ?_
        clear hc2
        rintro e w' ⟨rfl, rfl⟩
        go_wp2_with (go_at_call 74; refine (isLow_any _ _).mono ?_; rintro e w' ⟨rfl, rfl⟩)
        go_ret2
        exact Two.mk (by rw [HV.out]; rfl) (by rw [HV.out]; rfl)
      | true =>
        have hq : 56320 ≤ v ∧ v ≤ 57343 := by simpa [loB] using hlv
        have HV := Lib.hid (show unitsQ u v = (65536 + (u - 55296) * 1024 + (v - 56320), 12) by unfold unitsQ; rw [if_pos (by omega), if_pos hq])
        have HP := Lib.hid (show p0 (65536 + (u - 55296) * 1024 + (v - 56320), 12) = 65536 + (u - 55296) * 1024 + (v - 56320) by unfold p0; rw [if_neg]; simp only; omega)
        have HN := Lib.hid (show n0 (65536 + (u - 55296) * 1024 + (v - 56320), 12) = 12 by unfold n0; rw [if_neg]; simp only; omega)
        obtain ⟨q1, q2⟩ := hq
        go_enter Tryd.func63, Tryd.ntmps63
        go_wp2_with fail
        refine hc.mono ?_
        clear hc
        rintro e w' ⟨rfl, rfl⟩
        go_wp2_with (first | (go_at_call 74; refine (isLow_any _ _).mono ?_; rintro e w' ⟨rfl, rfl⟩) | (go_at_call 75; refine (isHigh_any _ _).mono ?_; rintro e w' ⟨rfl, rfl⟩))
        refine hc2.mono ?_
        clear hc2
        rintro e w' ⟨rfl, rfl⟩
        go_wp2_with (go_at_call 74; refine (isLow_any _ _).mono ?_; rintro e w' ⟨rfl, rfl⟩)
        go_ret2
        exact Two.mk (by rw [HV.out, HP.out]) (by rw [HV.out, HN.out])
end Go.Proofs.YtoddghppbfehpaaDoor
