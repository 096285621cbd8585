/-
  The walk of the law DateOffsets. Conditions: the library's table of powers of ten holds what it is laid with.
-/
import Derived.Test.YtomnkhehknklkaaDoorLB
namespace Go.Proofs.YtomnkhehknklkaaDoor
open Go.RowKit
open Go.Lib

theorem atom_off (t : Int) (sg : UInt8) (hsg : sg = 43 ∨ sg = 45) (h m : Int) (hh : 0 ≤ h ∧ h ≤ 23) (hm : 0 ≤ m ∧ m ≤ 59) : atomP (((printL t).take 19 ++ [sg]) ++ ((two h ++ [58]) ++ two m)) = some (clampT t - (if sg = 45 then -(3600 * h + 60 * m) else 3600 * h + 60 * m)) := by
  have e : ((printL t).take 19 ++ [sg]) ++ ((two h ++ [58]) ++ two m) = dayL t ++ (84 :: (clockL t ++ (sg :: (two h ++ ([58] ++ two m))))) := by
    have : (printL t).take 19 = dayL t ++ (84 :: clockL t) := by
      unfold printL dayL clockL dayT clockT four two; rfl
    rw [this]; simp
  rw [e, atom_at t _ (by simp)]
  have f : fracP (sg :: (two h ++ ([58] ++ two m))) = some (sg :: (two h ++ ([58] ++ two m))) := by
    unfold fracP
    rw [if_neg]
    rcases hsg with rfl | rfl <;> simp
  have z : zoneA (sg :: (two h ++ ([58] ++ two m))) = offP (sg :: (two h ++ ([58] ++ two m))) [58] := by
    unfold zoneA
    rw [if_neg]
    rintro (h | h) <;> (have := congrArg List.length h; simp [two] at this)
  rw [f, Option.bind_some, z, off_text sg h m [58] (.inl rfl) hsg hh hm, Option.bind_some]
theorem mail_take (t : Int) : (mailL t).length = 29 ∧ ∀ z, (mailL t).take 26 ++ z = mailT (daysT t % 7).toNat (yOf (daysT t)) (mOf (daysT t)) (dOf (daysT t)) (hourT t) (minT t) (secT t) z := by
  have h := parts_of t
  obtain ⟨_, ⟨m0, m1⟩, _⟩ := parts_bd t
  obtain ⟨_, w2, _⟩ := week_at (daysT t % 7).toNat (by omega)
  obtain ⟨_, n2, _⟩ := month_at (mOf (daysT t) - 1).toNat (by omega)
  unfold mailL mailT
  generalize weekN.getD (daysT t % 7).toNat [] = wk at *
  generalize monthsN.getD (mOf (daysT t) - 1).toNat [] = mn at *
  match wk, w2, mn, n2 with
  | [a, b, c], _, [p, q, r], _ =>
    unfold two four clockT two
    exact ⟨rfl, fun z => rfl⟩
theorem mail_off (t h m : Int) (hh : 0 ≤ h ∧ h ≤ 23) (hm : 0 ≤ m ∧ m ≤ 59) : mailP ((((mailL t).take 26 ++ [43]) ++ two h) ++ two m) = some (clampT t - (3600 * h + 60 * m)) := by
  have e : (((mailL t).take 26 ++ [43]) ++ two h) ++ two m = (mailL t).take 26 ++ (43 :: (two h ++ ([] ++ two m))) := by simp
  have hp := parts_of t
  have ho := off_text 43 h m [] (.inr rfl) (.inl rfl) hh hm
  have hd := (offP_iff _ [] (.inr rfl) _).1 ho
  rw [e, (mail_take t).2, mail_at t _ _ (by omega) (off_no_blank (.inr rfl) hd)]
  unfold zoneM
  rw [if_neg (off_no_name hd), ho, Option.bind_some]
  rfl
set_option maxRecDepth 100000 in
set_option maxHeartbeats 4000000 in
theorem law_offsets (t x y : Int) (w : World) (hx : 0 ≤ x ∧ x ≤ 255) (hy : 0 ≤ y ∧ y ≤ 255) (hT : Tab w) : Calls Tryd.prog 7 #[.int .i64 t, .agg #[.int .u8 x, .int .u8 y]] w (Yes w) := by
  obtain ⟨w0, hw0⟩ : ∃ W, W = w.alloc (.cells #[.int .u8 x, .int .u8 y] 39) := ⟨_, rfl⟩
  have N0 : Blk w.heap.size (.cells #[.int .u8 x, .int .u8 y] 39 (0, 0)) w0 := by rw [hw0]; exact Blk.new _ _
  have B0 : Below w.heap.size w w0 := by rw [hw0]; exact (Below.refl _ _).alloc (Nat.le_refl _) _
  have T0 := hT.below B0
  have hf := first_any w0 T0
  have HT := Lib.hid T0
  have HW0 := Lib.hid hw0
  clear hT T0 hw0
  obtain ⟨x0, x1⟩ := hx
  obtain ⟨y0, y1⟩ := hy
  obtain ⟨C, hC⟩ : ∃ C, clampT t = C := ⟨_, rfl⟩
  have cb := clampT_bd t
  rw [hC] at cb
  have hCC : clampT C = C := clamp_self C cb
  have c0 : -62135596800 ≤ C := cb.1
  have c1 : C ≤ 253402300799 := cb.2
  have HC := Lib.hid (show max lowT (min highT t) = C from hC)
  clear cb hC
  have hh : 0 ≤ x % 24 ∧ x % 24 ≤ 23 := by omega
  have hm : 0 ≤ y % 60 ∧ y % 60 ≤ 59 := by omega
  have e1 := atom_off C 43 (.inl rfl) (x % 24) (y % 60) hh hm
  have e2 := atom_off C 45 (.inr rfl) (x % 24) (y % 60) hh hm
  have e3 := mail_off C (x % 24) (y % 60) hh hm
  rw [hCC, if_neg (by decide)] at e1
  rw [hCC, if_pos rfl, show C - -(3600 * (x % 24) + 60 * (y % 60)) = C + (3600 * (x % 24) + 60 * (y % 60)) by omega] at e2
  rw [hCC] at e3
  clear hCC
  have htx : Int.tmod x 24 = x % 24 := Int.tmod_eq_emod_of_nonneg x0
  have hty : Int.tmod y 60 = y % 60 := Int.tmod_eq_emod_of_nonneg y0
  obtain ⟨h, hh0⟩ : ∃ h, x % 24 = h := ⟨_, rfl⟩
  obtain ⟨m, hm0⟩ : ∃ m, y % 60 = m := ⟨_, rfl⟩
  rw [hh0] at hh e1 e2 e3 htx
  rw [hm0] at hm e1 e2 e3 hty
  have HX := Lib.hid htx
  have HY := Lib.hid hty
  have HX2 := Lib.hid hh0
  have HY2 := Lib.hid hm0
  clear htx hty hh0 hm0
  obtain ⟨h0, h1⟩ := hh
  obtain ⟨m0, m1⟩ := hm
  have zP := (print_parts C).2.2
  have zM := (mail_take C).1
  obtain ⟨x1l, q1⟩ : ∃ l, two h ++ [58] = l := ⟨_, rfl⟩
  obtain ⟨x2l, q2⟩ : ∃ l, x1l ++ two m = l := ⟨_, rfl⟩
  obtain ⟨pl, q3⟩ : ∃ l, (printL C).take 19 = l := ⟨_, rfl⟩
  obtain ⟨p1, q4⟩ : ∃ l, pl ++ [43] = l := ⟨_, rfl⟩
  obtain ⟨p2, q5⟩ : ∃ l, p1 ++ x2l = l := ⟨_, rfl⟩
  obtain ⟨p3, q6⟩ : ∃ l, pl ++ [45] = l := ⟨_, rfl⟩
  obtain ⟨p4, q7⟩ : ∃ l, p3 ++ x2l = l := ⟨_, rfl⟩
  obtain ⟨ml, q8⟩ : ∃ l, (mailL C).take 26 = l := ⟨_, rfl⟩
  obtain ⟨n1, q9⟩ : ∃ l, ml ++ [43] = l := ⟨_, rfl⟩
  obtain ⟨n2, q10⟩ : ∃ l, n1 ++ two h = l := ⟨_, rfl⟩
  obtain ⟨n3, q11⟩ : ∃ l, n2 ++ two m = l := ⟨_, rfl⟩
  rw [q3, q4, q1, q2, q5] at e1
  rw [q3, q6, q1, q2, q7] at e2
  rw [q8, q9, q10, q11] at e3
  have zx1 : x1l.length = 3 := by rw [← q1]; rfl
  have zx2 : x2l.length = 5 := by rw [← q2, List.length_append, zx1]; rfl
  have zpl : pl.length = 19 := by rw [← q3, List.length_take, zP]; rfl
  have zp1 : p1.length = 20 := by rw [← q4, List.length_append, zpl]; rfl
  have zp3 : p3.length = 20 := by rw [← q6, List.length_append, zpl]; rfl
  have zml : ml.length = 26 := by rw [← q8, List.length_take, zM]; rfl
  have zn1 : n1.length = 27 := by rw [← q9, List.length_append, zml]; rfl
  have zn2 : n2.length = 29 := by rw [← q10, List.length_append, zn1]; rfl
  have a1 := fun W => add_text W _ _ _ (by rw [two_length]; decide) q1
  have a2 := fun W => add_text W _ _ _ (by rw [zx1, two_length]; decide) q2
  have a4 := fun W => add_text W _ _ _ (by rw [zpl]; decide) q4
  have a5 := fun W => add_text W _ _ _ (by rw [zp1, zx2]; decide) q5
  have a6 := fun W => add_text W _ _ _ (by rw [zpl]; decide) q6
  have a7 := fun W => add_text W _ _ _ (by rw [zp3, zx2]; decide) q7
  have a9 := fun W => add_text W _ _ _ (by rw [zml]; decide) q9
  have a10 := fun W => add_text W _ _ _ (by rw [zn1, two_length]; decide) q10
  have a11 := fun W => add_text W _ _ _ (by rw [zn2, two_length]; decide) q11
  have s1 : ∀ W, (Instr.slice 9 (.string ⟨(printL C).toArray⟩) none (some (.int .i64 19)) none).run Tryd.prog W = .ok (.string ⟨pl.toArray⟩) W := fun W => slice_upto (printL C) pl 19 (by omega) q3 W
  have s2 : ∀ W, (Instr.slice 9 (.string ⟨(mailL C).toArray⟩) none (some (.int .i64 26)) none).run Tryd.prog W = .ok (.string ⟨ml.toArray⟩) W := fun W => slice_upto (mailL C) ml 26 (by omega) q8 W
  have sz1 : (⟨(printL C).toArray⟩ : ByteArray).size = 20 := by rw [size_list]; exact zP
  have sz2 : (⟨(mailL C).toArray⟩ : ByteArray).size = 29 := by rw [size_list]; exact zM
  have cP := fun W (hW : Tab W) => print_any C W hW
  have cM := fun W (hW : Tab W) => printMail_any C W hW
  have cH := fun W => Two_any h W (by omega) (by omega)
  have cMi := fun W => Two_any m W (by omega) (by omega)
  have cA1 := fun W => atomL ⟨p2.toArray⟩ W
  have cA2 := fun W => atomL ⟨p4.toArray⟩ W
  have cA3 := fun W => mailLL ⟨n3.toArray⟩ W
  rw [show (⟨p2.toArray⟩ : ByteArray).data.toList = p2 from rfl, e1] at cA1
  rw [show (⟨p4.toArray⟩ : ByteArray).data.toList = p4 from rfl, e2] at cA2
  rw [show (⟨n3.toArray⟩ : ByteArray).data.toList = n3 from rfl, e3] at cA3
  unfold AnsOut AnsV at cA1 cA2 cA3
  unfold TextOut at cP cM cH cMi
  clear q1 q2 q3 q4 q5 q6 q7 q8 q9 q10 q11 e1 e2 e3 zx1 zx2 zpl zp1 zp3 zml zn1 zn2 zP zM
  generalize (⟨(printL C).toArray⟩ : ByteArray) = PP at *
  generalize (⟨(mailL C).toArray⟩ : ByteArray) = MM at *
  generalize (⟨(two h).toArray⟩ : ByteArray) = TH at *
  generalize (⟨(two m).toArray⟩ : ByteArray) = TM at *
  generalize (⟨x1l.toArray⟩ : ByteArray) = X1 at *
  generalize (⟨x2l.toArray⟩ : ByteArray) = X2 at *
  generalize (⟨pl.toArray⟩ : ByteArray) = PL at *
  generalize (⟨p1.toArray⟩ : ByteArray) = P1 at *
  generalize (⟨p2.toArray⟩ : ByteArray) = P2 at *
  generalize (⟨p3.toArray⟩ : ByteArray) = P3 at *
  generalize (⟨p4.toArray⟩ : ByteArray) = P4 at *
  generalize (⟨ml.toArray⟩ : ByteArray) = ML at *
  generalize (⟨n1.toArray⟩ : ByteArray) = N1 at *
  generalize (⟨n2.toArray⟩ : ByteArray) = N2 at *
  generalize (⟨n3.toArray⟩ : ByteArray) = N3 at *
  have w26 : IntKind.i64.wrap ((MM.size : Int) - 3) = 26 := by rw [sz2]; decide
  have A1 := Lib.hid a1
  have A2 := Lib.hid a2
  have A4 := Lib.hid a4
  have A5 := Lib.hid a5
  have A6 := Lib.hid a6
  have A7 := Lib.hid a7
  have A9 := Lib.hid a9
  have A10 := Lib.hid a10
  have A11 := Lib.hid a11
  have S1 := Lib.hid s1
  have S2 := Lib.hid s2
  have Z1 := Lib.hid sz1
  have W26 := Lib.hid w26
  have CP := Lib.hid cP
  have CM := Lib.hid cM
  have CH := Lib.hid cH
  have CMI := Lib.hid cMi
  have CA1 := Lib.hid cA1
  have CA2 := Lib.hid cA2
  have CA3 := Lib.hid cA3
  clear a1 a2 a4 a5 a6 a7 a9 a10 a11 s1 s2 sz1 sz2 w26 cP cM cH cMi cA1 cA2 cA3
  go_enter Tryd.func7, Tryd.ntmps7
  go_wp2_with fail
  rw [← HW0.out]
  refine hf.mono ?_
  clear hf
  rintro e w1 ⟨rfl, B1⟩
  go_wp2_with fail
  refine (Low_any w1).mono ?_
  rintro e w2 ⟨rfl, b2⟩
  have B2 := B1.trans (b2.mono B1.size)
  clear B1 b2
  go_wp2_with fail
  refine (High_any w2).mono ?_
  rintro e w3 ⟨rfl, b3⟩
  have B3 : Kept w0 w3 := B2.trans (b3.mono B2.size)
  clear B2 b3
  have hC := HC.out
  go_wp2_with fail
  clear hC
  have hc0 := (Kept.blk B3 N0).cell 0
  have hc1 := (Kept.blk B3 N0).cell 1
  simp at hc0 hc1
  have hx2 := HX2.out
  have hy2 := HY2.out
  have htx := HX.out
  have hty := HY.out
  go_quiet (fail)
  clear hc0 hc1 hx2 hy2 htx hty
  have B4 : Kept w0 (w3.drewN nq) := below_drewN B3 nq
  clear B3
  generalize w3.drewN nq = w4 at *
  go_wp2_with fail
  refine (CP.out w4 (B4.tab HT.out)).mono ?_
  rintro e w5 ⟨rfl, b5⟩
  have B5 : Kept w0 w5 := Kept.go B4 b5
  clear B4 b5
  go_wp2_with fail
  refine (CM.out w5 (B5.tab HT.out)).mono ?_
  rintro e w6 ⟨rfl, b6⟩
  have B6 : Kept w0 w6 := Kept.go B5 b6
  clear B5 b6
  go_wp2_with fail
  refine (CH.out w6).mono ?_
  rintro e w7 ⟨rfl, b7⟩
  have B7 : Kept w0 w7 := Kept.go B6 b7
  clear B6 b7
  have a1 := A1.out
  go_wp2_with fail
  refine (CMI.out w7).mono ?_
  rintro e w8 ⟨rfl, b8⟩
  have B8 : Kept w0 w8 := Kept.go B7 b8
  clear B7 b8
  have a2 := A2.out
  have z1 := Z1.out
  have s1 := S1.out
  have a4 := A4.out
  have a5 := A5.out
  go_wp2_with fail
  refine (CA1.out w8).mono ?_
  rintro e w9 ⟨rfl, b9⟩
  have B9 : Kept w0 w9 := Kept.go B8 b9
  clear B8 b9
  have a6 := A6.out
  have a7 := A7.out
  go_wp2_with fail
  refine (CA2.out w9).mono ?_
  rintro e w10 ⟨rfl, b10⟩
  have B10 : Kept w0 w10 := Kept.go B9 b10
  clear B9 b10
  clear a1 a2 a4 a5 a6 a7 s1 z1
  go_wp2_with fail
  have s2 := S2.out
  have w26 := W26.out
  have a9 := A9.out
  have a10 := A10.out
  have a11 := A11.out
  go_region_held3 (fun w' => Kept w0 w') (first | assumption | exact Kept.go (by assumption) (by assumption) | exact Kept.drew (by assumption))
    (first
      | (go_at_call 17; (with_reducible refine (CH.out _).mono ?_); rintro e w' ⟨rfl, b⟩)
      | (go_at_call 17; (with_reducible refine (CMI.out _).mono ?_); rintro e w' ⟨rfl, b⟩)
      | (go_at_call 13; (with_reducible refine (CA3.out _).mono ?_); rintro e w' ⟨rfl, b⟩))
  all_goals
    clear s2 w26 a9 a10 a11
    go_wp2
    go_ret
    refine ⟨rfl, Kept.onto B0 ?_⟩
    first | assumption | exact Kept.go (by assumption) (by assumption)
end Go.Proofs.YtomnkhehknklkaaDoor
