/-
  The walk of the law DatePrints. Conditions: the library's table of powers of ten holds what it is laid with.
-/
import Derived.Test.YtomnkhehknklkaaDoorLB
import Derived.Test.YtomnkhehknklkaaDoorRC
namespace Go.Proofs.YtomnkhehknklkaaDoor
open Go.RowKit
open Go.Lib

set_option maxRecDepth 100000 in
set_option maxHeartbeats 8000000 in
theorem law_prints (t : Int) (w : World) (hT : Tab w) : Calls Tryd.prog 5 #[.int .i64 t] w (Yes w) := by
  have hf := first_any w hT
  have HT := Lib.hid hT
  clear hT
  have hsp := fun W => Split_any t W
  have hday := fun W (h : Tab W) => day_any t W h
  have hpr := fun W (h : Tab W) => print_any t W h
  have hpm := fun W (h : Tab W) => printMail_any t W h
  obtain ⟨⟨y0, y1⟩, ⟨mo0, mo1⟩, ⟨d0, d1⟩, ⟨h0, h1⟩, ⟨mi0, mi1⟩, ⟨s0, s1⟩⟩ := parts_bd t
  have hp := parts_of t
  have ep := print_parts2 t
  have em := mail_parts (weekN.getD (daysT t % 7).toNat []) (monthsN.getD (mOf (daysT t) - 1).toNat []) (yOf (daysT t)) (dOf (daysT t)) (hourT t) (minT t) (secT t)
  have hkw : (daysT t % 7).toNat < 7 := by omega
  have hwl := (week_at _ hkw).2.1
  have hwb := weekB_at _ hkw
  unfold SplitOut partsV at hsp
  unfold TextOut at hday hpr hpm
  unfold mailL mailT at hpm
  unfold dayL clockL at ep
  unfold dayL at hday
  obtain ⟨kw, hkw2⟩ : ∃ k : Nat, daysT t % 7 = k := ⟨(daysT t % 7).toNat, by omega⟩
  rw [show (daysT t % 7).toNat = kw by omega] at hwl hwb hpm em hkw
  simp only [hkw2] at hsp
  clear hp hkw2
  generalize yOf (daysT t) = y at *
  generalize mOf (daysT t) = mo at *
  generalize dOf (daysT t) = d at *
  generalize hourT t = h at *
  generalize minT t = mi at *
  generalize secT t = s at *
  obtain ⟨j, hj⟩ : ∃ j : Nat, mo - 1 = j := ⟨(mo - 1).toNat, by omega⟩
  have hj12 : j < 12 := by omega
  rw [show (mo - 1).toNat = j by omega] at hpm em
  have hmb := monthsB_at j hj12
  have hml := (month_at j hj12).2.1
  generalize weekN.getD kw [] = wk at *
  generalize monthsN.getD j [] = mn at *
  rw [← em] at hpm
  clear em
  have ed := day_parts y mo d
  have ec := clock_parts h mi s
  rw [← ed] at hday ep
  rw [← ec] at hpm ep
  clear ed ec
  rw [← ep] at hpr
  clear ep
  obtain ⟨d1, e_d1⟩ : ∃ l, four y ++ [45] = l := ⟨_, rfl⟩
  obtain ⟨d2, e_d2⟩ : ∃ l, d1 ++ two mo = l := ⟨_, rfl⟩
  obtain ⟨d3, e_d3⟩ : ∃ l, d2 ++ [45] = l := ⟨_, rfl⟩
  obtain ⟨dl, e_dl⟩ : ∃ l, d3 ++ two d = l := ⟨_, rfl⟩
  obtain ⟨c1, e_c1⟩ : ∃ l, two h ++ [58] = l := ⟨_, rfl⟩
  obtain ⟨c2, e_c2⟩ : ∃ l, c1 ++ two mi = l := ⟨_, rfl⟩
  obtain ⟨c3, e_c3⟩ : ∃ l, c2 ++ [58] = l := ⟨_, rfl⟩
  obtain ⟨cl, e_cl⟩ : ∃ l, c3 ++ two s = l := ⟨_, rfl⟩
  obtain ⟨p1, e_p1⟩ : ∃ l, dl ++ [84] = l := ⟨_, rfl⟩
  obtain ⟨p2, e_p2⟩ : ∃ l, p1 ++ cl = l := ⟨_, rfl⟩
  obtain ⟨pl, e_pl⟩ : ∃ l, p2 ++ [90] = l := ⟨_, rfl⟩
  obtain ⟨m1, e_m1⟩ : ∃ l, wk ++ [44, 32] = l := ⟨_, rfl⟩
  obtain ⟨m2, e_m2⟩ : ∃ l, m1 ++ two d = l := ⟨_, rfl⟩
  obtain ⟨m3, e_m3⟩ : ∃ l, m2 ++ [32] = l := ⟨_, rfl⟩
  obtain ⟨m4, e_m4⟩ : ∃ l, m3 ++ mn = l := ⟨_, rfl⟩
  obtain ⟨m5, e_m5⟩ : ∃ l, m4 ++ [32] = l := ⟨_, rfl⟩
  obtain ⟨m6, e_m6⟩ : ∃ l, m5 ++ four y = l := ⟨_, rfl⟩
  obtain ⟨m7, e_m7⟩ : ∃ l, m6 ++ [32] = l := ⟨_, rfl⟩
  obtain ⟨m8, e_m8⟩ : ∃ l, m7 ++ cl = l := ⟨_, rfl⟩
  obtain ⟨ml, e_ml⟩ : ∃ l, m8 ++ [32, 71, 77, 84] = l := ⟨_, rfl⟩
  simp only [e_d1, e_d2, e_d3, e_dl] at hday
  simp only [e_d1, e_d2, e_d3, e_dl, e_c1, e_c2, e_c3, e_cl, e_p1, e_p2, e_pl] at hpr
  rw [e_c1, e_c2, e_c3, e_cl] at hpm
  have hml2 : (((((wk ++ [44, 32]) ++ ((((two d ++ [32]) ++ mn) ++ [32]) ++ four y)) ++ [32]) ++ cl) ++ [32, 71, 77, 84]) = ml := by
    rw [← e_ml, ← e_m8, ← e_m7, ← e_m6, ← e_m5, ← e_m4, ← e_m3, ← e_m2, ← e_m1]; simp
  rw [hml2] at hpm
  clear hml2
  have z_d1 : d1.length = 5 := by rw [← e_d1, List.length_append, four_length]; rfl
  have z_d2 : d2.length = 7 := by rw [← e_d2, List.length_append, z_d1, two_length]
  have z_d3 : d3.length = 8 := by rw [← e_d3, List.length_append, z_d2]; rfl
  have z_dl : dl.length = 10 := by rw [← e_dl, List.length_append, z_d3, two_length]
  have z_c1 : c1.length = 3 := by rw [← e_c1, List.length_append, two_length]; rfl
  have z_c2 : c2.length = 5 := by rw [← e_c2, List.length_append, z_c1, two_length]
  have z_c3 : c3.length = 6 := by rw [← e_c3, List.length_append, z_c2]; rfl
  have z_cl : cl.length = 8 := by rw [← e_cl, List.length_append, z_c3, two_length]
  have z_p1 : p1.length = 11 := by rw [← e_p1, List.length_append, z_dl]; rfl
  have z_p2 : p2.length = 19 := by rw [← e_p2, List.length_append, z_p1, z_cl]
  have z_pl : pl.length = 20 := by rw [← e_pl, List.length_append, z_p2]; rfl
  have z_m1 : m1.length = 5 := by rw [← e_m1, List.length_append, hwl]; rfl
  have z_m2 : m2.length = 7 := by rw [← e_m2, List.length_append, z_m1, two_length]
  have z_m3 : m3.length = 8 := by rw [← e_m3, List.length_append, z_m2]; rfl
  have z_m4 : m4.length = 11 := by rw [← e_m4, List.length_append, z_m3, hml]
  have z_m5 : m5.length = 12 := by rw [← e_m5, List.length_append, z_m4]; rfl
  have z_m6 : m6.length = 16 := by rw [← e_m6, List.length_append, z_m5, four_length]
  have z_m7 : m7.length = 17 := by rw [← e_m7, List.length_append, z_m6]; rfl
  have z_m8 : m8.length = 25 := by rw [← e_m8, List.length_append, z_m7, z_cl]
  have z_ml : ml.length = 29 := by rw [← e_ml, List.length_append, z_m8]; rfl
  have a_d1 := fun W => add_text W _ _ _ (by rw [four_length]; decide) e_d1
  have a_d2 := fun W => add_text W _ _ _ (by rw [z_d1, two_length]; decide) e_d2
  have a_d3 := fun W => add_text W _ _ _ (by rw [z_d2]; decide) e_d3
  have a_dl := fun W => add_text W _ _ _ (by rw [z_d3, two_length]; decide) e_dl
  have a_c1 := fun W => add_text W _ _ _ (by rw [two_length]; decide) e_c1
  have a_c2 := fun W => add_text W _ _ _ (by rw [z_c1, two_length]; decide) e_c2
  have a_c3 := fun W => add_text W _ _ _ (by rw [z_c2]; decide) e_c3
  have a_cl := fun W => add_text W _ _ _ (by rw [z_c3, two_length]; decide) e_cl
  have a_p1 := fun W => add_text W _ _ _ (by rw [z_dl]; decide) e_p1
  have a_p2 := fun W => add_text W _ _ _ (by rw [z_p1, z_cl]; decide) e_p2
  have a_pl := fun W => add_text W _ _ _ (by rw [z_p2]; decide) e_pl
  have a_m1 := fun W => add_text W _ _ _ (by rw [hwl]; decide) e_m1
  have a_m2 := fun W => add_text W _ _ _ (by rw [z_m1, two_length]; decide) e_m2
  have a_m3 := fun W => add_text W _ _ _ (by rw [z_m2]; decide) e_m3
  have a_m4 := fun W => add_text W _ _ _ (by rw [z_m3, hml]; decide) e_m4
  have a_m5 := fun W => add_text W _ _ _ (by rw [z_m4]; decide) e_m5
  have a_m6 := fun W => add_text W _ _ _ (by rw [z_m5, four_length]; decide) e_m6
  have a_m7 := fun W => add_text W _ _ _ (by rw [z_m6]; decide) e_m7
  have a_m8 := fun W => add_text W _ _ _ (by rw [z_m7, z_cl]; decide) e_m8
  have a_ml := fun W => add_text W _ _ _ (by rw [z_m8]; decide) e_ml
  clear e_d1 z_d1 e_d2 z_d2 e_d3 z_d3 e_dl z_dl e_c1 z_c1 e_c2 z_c2 e_c3 z_c3 e_cl z_cl e_p1 z_p1 e_p2 z_p2 e_pl z_pl e_m1 z_m1 e_m2 z_m2 e_m3 z_m3 e_m4 z_m4 e_m5 z_m5 e_m6 z_m6 e_m7 z_m7 e_m8 z_m8 e_ml z_ml hwl hml
  have hw64 : IntKind.i64.wrap (mo - 1) = (j : Int) := by rw [hj]; exact IntWalk.i64_in _ (by omega)
  have cF := fun W => Four_any y W (by omega) (by omega)
  have cMo := fun W => Two_any mo W (by omega) (by omega)
  have cD := fun W => Two_any d W (by omega) (by omega)
  have cH := fun W => Two_any h W (by omega) (by omega)
  have cMi := fun W => Two_any mi W (by omega) (by omega)
  have cS := fun W => Two_any s W (by omega) (by omega)
  unfold TextOut at cF cMo cD cH cMi cS
  generalize (⟨wk.toArray⟩ : ByteArray) = WK at *
  generalize (⟨mn.toArray⟩ : ByteArray) = MN at *
  generalize (⟨(four y).toArray⟩ : ByteArray) = FY at *
  generalize (⟨(two mo).toArray⟩ : ByteArray) = TMO at *
  generalize (⟨(two d).toArray⟩ : ByteArray) = TD at *
  generalize (⟨(two h).toArray⟩ : ByteArray) = TH at *
  generalize (⟨(two mi).toArray⟩ : ByteArray) = TMI at *
  generalize (⟨(two s).toArray⟩ : ByteArray) = TS at *
  generalize (⟨d1.toArray⟩ : ByteArray) = Xd1 at *
  generalize (⟨d2.toArray⟩ : ByteArray) = Xd2 at *
  generalize (⟨d3.toArray⟩ : ByteArray) = Xd3 at *
  generalize (⟨dl.toArray⟩ : ByteArray) = Xdl at *
  generalize (⟨c1.toArray⟩ : ByteArray) = Xc1 at *
  generalize (⟨c2.toArray⟩ : ByteArray) = Xc2 at *
  generalize (⟨c3.toArray⟩ : ByteArray) = Xc3 at *
  generalize (⟨cl.toArray⟩ : ByteArray) = Xcl at *
  generalize (⟨p1.toArray⟩ : ByteArray) = Xp1 at *
  generalize (⟨p2.toArray⟩ : ByteArray) = Xp2 at *
  generalize (⟨pl.toArray⟩ : ByteArray) = Xpl at *
  generalize (⟨m1.toArray⟩ : ByteArray) = Xm1 at *
  generalize (⟨m2.toArray⟩ : ByteArray) = Xm2 at *
  generalize (⟨m3.toArray⟩ : ByteArray) = Xm3 at *
  generalize (⟨m4.toArray⟩ : ByteArray) = Xm4 at *
  generalize (⟨m5.toArray⟩ : ByteArray) = Xm5 at *
  generalize (⟨m6.toArray⟩ : ByteArray) = Xm6 at *
  generalize (⟨m7.toArray⟩ : ByteArray) = Xm7 at *
  generalize (⟨m8.toArray⟩ : ByteArray) = Xm8 at *
  generalize (⟨ml.toArray⟩ : ByteArray) = Xml at *
  have A_d1 := Lib.hid a_d1
  have A_d2 := Lib.hid a_d2
  have A_d3 := Lib.hid a_d3
  have A_dl := Lib.hid a_dl
  have A_c1 := Lib.hid a_c1
  have A_c2 := Lib.hid a_c2
  have A_c3 := Lib.hid a_c3
  have A_cl := Lib.hid a_cl
  have A_p1 := Lib.hid a_p1
  have A_p2 := Lib.hid a_p2
  have A_pl := Lib.hid a_pl
  have A_m1 := Lib.hid a_m1
  have A_m2 := Lib.hid a_m2
  have A_m3 := Lib.hid a_m3
  have A_m4 := Lib.hid a_m4
  have A_m5 := Lib.hid a_m5
  have A_m6 := Lib.hid a_m6
  have A_m7 := Lib.hid a_m7
  have A_m8 := Lib.hid a_m8
  have A_ml := Lib.hid a_ml
  clear a_d1 a_d2 a_d3 a_dl a_c1 a_c2 a_c3 a_cl a_p1 a_p2 a_pl a_m1 a_m2 a_m3 a_m4 a_m5 a_m6 a_m7 a_m8 a_ml
  have Hhsp := Lib.hid hsp
  clear hsp
  have Hhday := Lib.hid hday
  clear hday
  have Hhpr := Lib.hid hpr
  clear hpr
  have Hhpm := Lib.hid hpm
  clear hpm
  have Hhwb := Lib.hid hwb
  clear hwb
  have Hhmb := Lib.hid hmb
  clear hmb
  have Hhw64 := Lib.hid hw64
  clear hw64
  have Hhj := Lib.hid hj
  clear hj
  have HcF := Lib.hid cF
  clear cF
  have HcMo := Lib.hid cMo
  clear cMo
  have HcD := Lib.hid cD
  clear cD
  have HcH := Lib.hid cH
  clear cH
  have HcMi := Lib.hid cMi
  clear cMi
  have HcS := Lib.hid cS
  clear cS
  go_enter Tryd.func5, Tryd.ntmps5
  go_wp2_with fail
  refine hf.mono ?_
  clear hf
  rintro e w1 ⟨rfl, B1⟩
  go_wp2_with fail
  refine (Hhsp.out w1).mono ?_
  rintro e w2 ⟨rfl, b2⟩
  have B2 := B1.trans (b2.mono B1.size)
  clear B1 b2
  obtain ⟨w0, hw0⟩ : ∃ W, W = (w2.alloc (.cells #[.int .i64 y, .int .i64 mo, .int .i64 d, .int .i64 h, .int .i64 mi, .int .i64 s, .int .i64 0] 31)).alloc (.cells #[.int .i64 y, .int .i64 mo, .int .i64 d, .int .i64 h, .int .i64 mi, .int .i64 s] 29) := ⟨_, rfl⟩
  have N0 : Blk (w2.heap.size + 1) (.cells #[.int .i64 y, .int .i64 mo, .int .i64 d, .int .i64 h, .int .i64 mi, .int .i64 s] 29 (0, 0)) w0 := by rw [hw0]; simpa using Blk.new (.cells #[.int .i64 y, .int .i64 mo, .int .i64 d, .int .i64 h, .int .i64 mi, .int .i64 s] 29) (w2.alloc (.cells #[.int .i64 y, .int .i64 mo, .int .i64 d, .int .i64 h, .int .i64 mi, .int .i64 s, .int .i64 0] 31))
  have B0 : Below w.heap.size w w0 := by rw [hw0]; exact (B2.alloc B2.size _).alloc (by have := B2.size; simp; omega) _
  have HW0 := Lib.hid hw0
  clear hw0 B2
  go_wp2_with fail
  rw [← HW0.out]
  have hall : ∀ W, Kept w0 W → (Kept w0 W ∧ W.cell? ⟨w2.heap.size + 1, 0, none⟩ = some (.int .i64 y) ∧ W.cell? ⟨w2.heap.size + 1, 1, none⟩ = some (.int .i64 mo) ∧ W.cell? ⟨w2.heap.size + 1, 2, none⟩ = some (.int .i64 d) ∧ W.cell? ⟨w2.heap.size + 1, 3, none⟩ = some (.int .i64 h) ∧ W.cell? ⟨w2.heap.size + 1, 4, none⟩ = some (.int .i64 mi) ∧ W.cell? ⟨w2.heap.size + 1, 5, none⟩ = some (.int .i64 s)) := by
    intro W hW
    have hB := hW.blk N0
    exact ⟨hW, hB.cell 0, hB.cell 1, hB.cell 2, hB.cell 3, hB.cell 4, hB.cell 5⟩
  have HA := Lib.hid hall
  have HT0 := Lib.hid (HT.out.below B0)
  clear hall
  have hkk : Kept w0 w0 := Below.refl _ _
  have q1 := A_d1.out
  have q2 := A_d2.out
  have q3 := A_d3.out
  have q4 := A_dl.out
  go_region_held3 (fun w' => Kept w0 w' ∧ w'.cell? ⟨w2.heap.size + 1, 0, none⟩ = some (.int .i64 y) ∧ w'.cell? ⟨w2.heap.size + 1, 1, none⟩ = some (.int .i64 mo) ∧ w'.cell? ⟨w2.heap.size + 1, 2, none⟩ = some (.int .i64 d) ∧ w'.cell? ⟨w2.heap.size + 1, 3, none⟩ = some (.int .i64 h) ∧ w'.cell? ⟨w2.heap.size + 1, 4, none⟩ = some (.int .i64 mi) ∧ w'.cell? ⟨w2.heap.size + 1, 5, none⟩ = some (.int .i64 s))
    (first | assumption | exact HA.out _ (by assumption) | exact HA.out _ (Kept.drew (by assumption)) | exact HA.out _ (Kept.go (by assumption) (by assumption)) | exact HA.out _ (Kept.go (And.left (by assumption)) (by assumption)))
    (first
      | (go_at_call 16; (with_reducible refine (HcF.out _).mono ?_); rintro e w' ⟨rfl, b⟩)
      | (go_at_call 17; (with_reducible refine (HcMo.out _).mono ?_); rintro e w' ⟨rfl, b⟩)
      | (go_at_call 17; (with_reducible refine (HcD.out _).mono ?_); rintro e w' ⟨rfl, b⟩))
  clear q1 q2 q3 q4
  have hk5 : Kept w0 w' := And.left (by assumption)
  obtain ⟨w5, hw5⟩ : ∃ W, W = w' := ⟨_, rfl⟩
  subst hw5
  clear b hkk
  have hkk := hk5
  clear hk5
  go_wp2_with fail
  have q1 := A_c1.out
  have q2 := A_c2.out
  have q3 := A_c3.out
  have q4 := A_cl.out
  go_region_held3 (fun w' => Kept w0 w' ∧ w'.cell? ⟨w2.heap.size + 1, 0, none⟩ = some (.int .i64 y) ∧ w'.cell? ⟨w2.heap.size + 1, 1, none⟩ = some (.int .i64 mo) ∧ w'.cell? ⟨w2.heap.size + 1, 2, none⟩ = some (.int .i64 d) ∧ w'.cell? ⟨w2.heap.size + 1, 3, none⟩ = some (.int .i64 h) ∧ w'.cell? ⟨w2.heap.size + 1, 4, none⟩ = some (.int .i64 mi) ∧ w'.cell? ⟨w2.heap.size + 1, 5, none⟩ = some (.int .i64 s))
    (first | assumption | exact HA.out _ (by assumption) | exact HA.out _ (Kept.drew (by assumption)) | exact HA.out _ (Kept.go (by assumption) (by assumption)) | exact HA.out _ (Kept.go (And.left (by assumption)) (by assumption)))
    (first
      | (go_at_call 17; (with_reducible refine (HcH.out _).mono ?_); rintro e w' ⟨rfl, b⟩)
      | (go_at_call 17; (with_reducible refine (HcMi.out _).mono ?_); rintro e w' ⟨rfl, b⟩)
      | (go_at_call 17; (with_reducible refine (HcS.out _).mono ?_); rintro e w' ⟨rfl, b⟩))
  clear q1 q2 q3 q4
  have hk6 : Kept w0 w' := And.left (by assumption)
  obtain ⟨w6, hw6⟩ : ∃ W, W = w' := ⟨_, rfl⟩
  subst hw6
  clear b hkk
  have hday6 := fun W (hW : Kept w0 W) => Hhday.out W (hW.tab HT0.out)
  have hpr6 := fun W (hW : Kept w0 W) => Hhpr.out W (hW.tab HT0.out)
  have hpm6 := fun W (hW : Kept w0 W) => Hhpm.out W (hW.tab HT0.out)
  have Cday := Lib.hid hday6
  have Cpr := Lib.hid hpr6
  have Cpm := Lib.hid hpm6
  clear hday6 hpr6 hpm6
  go_wp2_with fail
  have q_p1 := A_p1.out
  have q_p2 := A_p2.out
  have q_pl := A_pl.out
  have q_m1 := A_m1.out
  have q_m2 := A_m2.out
  have q_m3 := A_m3.out
  have q_m4 := A_m4.out
  have q_m5 := A_m5.out
  have q_m6 := A_m6.out
  have q_m7 := A_m7.out
  have q_m8 := A_m8.out
  have q_ml := A_ml.out
  have hw64 := Hhw64.out
  have j0 : (0 : Int) ≤ (j : Int) := by omega
  have j12 : (j : Int) < 12 := by omega
  have kw0 : (0 : Int) ≤ (kw : Int) := by omega
  have kw7 : (kw : Int) < 7 := by omega
  refine wp_region_held_drew (S := fun w' => Kept w0 w' ∧ w'.cell? ⟨w2.heap.size + 1, 0, none⟩ = some (.int .i64 y) ∧ w'.cell? ⟨w2.heap.size + 1, 1, none⟩ = some (.int .i64 mo) ∧ w'.cell? ⟨w2.heap.size + 1, 2, none⟩ = some (.int .i64 d) ∧ w'.cell? ⟨w2.heap.size + 1, 3, none⟩ = some (.int .i64 h) ∧ w'.cell? ⟨w2.heap.size + 1, 4, none⟩ = some (.int .i64 mi) ∧ w'.cell? ⟨w2.heap.size + 1, 5, none⟩ = some (.int .i64 s)) (by kernel_rfl) (HA.out _ (Kept.drew hk6)) (fun hHeld => ?_)
  refine wpAnyH_take (i := 0) (v := ?v1) rfl (by kernel_rfl) (by kernel_rfl) (by kernel_rfl) (fun _ _ _ h => h) (Or.inl ⟨by rfl, ?y1⟩) (by assumption) ?r1
  case y1 => (intro W hSw; (try dsimp only at hSw); go_simp <;> with_reducible rfl)
  change wpAnyH _ _ _ _ _ _ _ (Act.put _ (some 43) _) _
  simp only [Act.put, List.setIfInBounds_toArray, List.set_cons_zero, List.set_cons_succ]
  refine wpAnyH_take (i := 2) (v := ?v2) rfl (by kernel_rfl) (by kernel_rfl) (by kernel_rfl) (fun _ _ _ h => h) (Or.inl ⟨by rfl, ?y2⟩) (by assumption) ?r2
  case y2 => (intro W hSw; (try dsimp only at hSw); go_simp <;> with_reducible rfl)
  change wpAnyH _ _ _ _ _ _ _ (Act.put _ (some 45) _) _
  simp only [Act.put, List.setIfInBounds_toArray, List.set_cons_zero, List.set_cons_succ]
  refine wpAnyH_ready (rs := [1]) (by kernel_rfl) (by simp) ?_
  refine AllReadyH.cons rfl (fun K hK => ?_) AllReadyH.nil
  go_simp
  refine (Cday.out _ hHeld.1).mono ?_
  rintro e w7 ⟨rfl, b7⟩
  refine hK.out _ _ (HA.out _ (Kept.go hHeld.1 b7)) (fun hHeld3 => ?_)
  clear hK K
  refine wpAnyH_take (i := 3) (v := ?v4) rfl (by kernel_rfl) (by kernel_rfl) (by kernel_rfl) (fun _ _ _ h => h) (Or.inl ⟨by rfl, ?y4⟩) (by assumption) ?r4
  case y4 => (intro W hSw; (try dsimp only at hSw); go_simp <;> with_reducible rfl)
  change wpAnyH _ _ _ _ _ _ _ (Act.put _ (some 46) _) _
  simp only [Act.put, List.setIfInBounds_toArray, List.set_cons_zero, List.set_cons_succ]
  refine wpAnyH_take (i := 4) (v := ?v5) rfl (by kernel_rfl) (by kernel_rfl) (by kernel_rfl) (fun _ _ _ h => h) (Or.inl ⟨by rfl, ?y5⟩) (by assumption) ?r5
  case y5 => (intro W hSw; (try dsimp only at hSw); go_simp <;> with_reducible rfl)
  change wpAnyH _ _ _ _ _ _ _ (Act.put _ (some 47) _) _
  simp only [Act.put, List.setIfInBounds_toArray, List.set_cons_zero, List.set_cons_succ]
  refine wpAnyH_take (i := 5) (v := ?v6) rfl (by kernel_rfl) (by kernel_rfl) (by kernel_rfl) (fun _ _ _ h => h) (Or.inl ⟨by rfl, ?y6⟩) (by assumption) ?r6
  case y6 => (intro W hSw; (try dsimp only at hSw); go_simp <;> with_reducible rfl)
  change wpAnyH _ _ _ _ _ _ _ (Act.put _ (some 48) _) _
  simp only [Act.put, List.setIfInBounds_toArray, List.set_cons_zero, List.set_cons_succ]
  refine wpAnyH_take (i := 7) (v := ?v7) rfl (by kernel_rfl) (by kernel_rfl) (by kernel_rfl) (fun _ _ _ h => h) (Or.inl ⟨by rfl, ?y7⟩) (by assumption) ?r7
  case y7 => (intro W hSw; (try dsimp only at hSw); go_simp <;> with_reducible rfl)
  change wpAnyH _ _ _ _ _ _ _ (Act.put _ (some 50) _) _
  simp only [Act.put, List.setIfInBounds_toArray, List.set_cons_zero, List.set_cons_succ]
  refine wpAnyH_take (i := 8) (v := ?v8) rfl (by kernel_rfl) (by kernel_rfl) (by kernel_rfl) (fun _ _ _ h => h) (Or.inl ⟨by rfl, ?y8⟩) (by assumption) ?r8
  case y8 => (intro W hSw; (try dsimp only at hSw); go_simp <;> with_reducible rfl)
  change wpAnyH _ _ _ _ _ _ _ (Act.put _ (some 51) _) _
  simp only [Act.put, List.setIfInBounds_toArray, List.set_cons_zero, List.set_cons_succ]
  refine wpAnyH_take (i := 9) (v := ?v9) rfl (by kernel_rfl) (by kernel_rfl) (by kernel_rfl) (fun _ _ _ h => h) (Or.inl ⟨by rfl, ?y9⟩) (by assumption) ?r9
  case y9 => (intro W hSw; (try dsimp only at hSw); go_simp <;> with_reducible rfl)
  change wpAnyH _ _ _ _ _ _ _ (Act.put _ (some 52) _) _
  simp only [Act.put, List.setIfInBounds_toArray, List.set_cons_zero, List.set_cons_succ]
  refine wpAnyH_take (i := 10) (v := ?v10) rfl (by kernel_rfl) (by kernel_rfl) (by kernel_rfl) (fun _ _ _ h => h) (Or.inl ⟨by rfl, ?y10⟩) (by assumption) ?r10
  case y10 => (intro W hSw; (try dsimp only at hSw); go_simp <;> with_reducible rfl)
  change wpAnyH _ _ _ _ _ _ _ (Act.put _ (some 53) _) _
  simp only [Act.put, List.setIfInBounds_toArray, List.set_cons_zero, List.set_cons_succ]
  refine wpAnyH_take (i := 11) (v := ?v11) rfl (by kernel_rfl) (by kernel_rfl) (by kernel_rfl) (fun _ _ _ h => h) (Or.inl ⟨by rfl, ?y11⟩) (by assumption) ?r11
  case y11 => (intro W hSw; (try dsimp only at hSw); go_simp <;> with_reducible rfl)
  change wpAnyH _ _ _ _ _ _ _ (Act.put _ (some 54) _) _
  simp only [Act.put, List.setIfInBounds_toArray, List.set_cons_zero, List.set_cons_succ]
  refine wpAnyH_ready (rs := [6]) (by kernel_rfl) (by simp) ?_
  refine AllReadyH.cons rfl (fun K hK => ?_) AllReadyH.nil
  go_simp
  refine (Cpr.out _ hHeld3.1).mono ?_
  rintro e w8 ⟨rfl, b8⟩
  refine hK.out _ _ (HA.out _ (Kept.go hHeld3.1 b8)) (fun hHeld12 => ?_)
  clear hK K
  refine wpAnyH_take (i := 12) (v := ?v13) rfl (by kernel_rfl) (by kernel_rfl) (by kernel_rfl) (fun _ _ _ h => h) (Or.inl ⟨by rfl, ?y13⟩) (by assumption) ?r13
  case y13 => (intro W hSw; (try dsimp only at hSw); go_simp <;> with_reducible rfl)
  change wpAnyH _ _ _ _ _ _ _ (Act.put _ (some 55) _) _
  simp only [Act.put, List.setIfInBounds_toArray, List.set_cons_zero, List.set_cons_succ]
  refine wpAnyH_take (i := 13) (v := ?v14) rfl (by kernel_rfl) (by kernel_rfl) (by kernel_rfl) (fun _ _ _ h => h) (Or.inl ⟨by rfl, ?y14⟩) (by assumption) ?r14
  case y14 => (intro W hSw; (try dsimp only at hSw); go_simp <;> with_reducible rfl)
  change wpAnyH _ _ _ _ _ _ _ (Act.put _ (some 56) _) _
  simp only [Act.put, List.setIfInBounds_toArray, List.set_cons_zero, List.set_cons_succ]
  refine wpAnyH_take (i := 14) (v := ?v15) rfl (by kernel_rfl) (by kernel_rfl) (by kernel_rfl) (fun _ _ _ h => h) (Or.inl ⟨by rfl, ?y15⟩) (by assumption) ?r15
  case y15 => (intro W hSw; (try dsimp only at hSw); go_simp <;> with_reducible rfl)
  change wpAnyH _ _ _ _ _ _ _ (Act.put _ (some 57) _) _
  simp only [Act.put, List.setIfInBounds_toArray, List.set_cons_zero, List.set_cons_succ]
  refine wpAnyH_take (i := 15) (v := ?v16) rfl (by kernel_rfl) (by kernel_rfl) (by kernel_rfl) (fun _ _ _ h => h) (Or.inl ⟨by rfl, ?y16⟩) (by assumption) ?r16
  case y16 => (intro W hSw; (try dsimp only at hSw); go_simp <;> with_reducible rfl)
  change wpAnyH _ _ _ _ _ _ _ (Act.put _ (some 58) _) _
  simp only [Act.put, List.setIfInBounds_toArray, List.set_cons_zero, List.set_cons_succ]
  refine wpAnyH_take (i := 18) (v := ?v17) rfl (by kernel_rfl) (by kernel_rfl) (by kernel_rfl) (fun _ _ _ h => h) (Or.inl ⟨by rfl, ?y17⟩) (by assumption) ?r17
  case y17 => (intro W hSw; (try dsimp only at hSw); go_simp <;> with_reducible rfl)
  change wpAnyH _ _ _ _ _ _ _ (Act.put _ (some 61) _) _
  simp only [Act.put, List.setIfInBounds_toArray, List.set_cons_zero, List.set_cons_succ]
  refine wpAnyH_take (i := 22) (v := ?v18) rfl (by kernel_rfl) (by kernel_rfl) (by kernel_rfl) (fun _ _ _ h => h) (Or.inl ⟨by rfl, ?y18⟩) (by assumption) ?r18
  case y18 => (intro W hSw; (try dsimp only at hSw); go_simp <;> with_reducible rfl)
  change wpAnyH _ _ _ _ _ _ _ (Act.put _ (some 65) _) _
  simp only [Act.put, List.setIfInBounds_toArray, List.set_cons_zero, List.set_cons_succ]
  refine wpAnyH_take (i := 23) (v := ?v19) rfl (by kernel_rfl) (by kernel_rfl) (by kernel_rfl) (fun _ _ _ h => h) (Or.inl ⟨by rfl, ?y19⟩) (by assumption) ?r19
  case y19 => (intro W hSw; (try dsimp only at hSw); go_simp <;> with_reducible rfl)
  change wpAnyH _ _ _ _ _ _ _ (Act.put _ (some 66) _) _
  simp only [Act.put, List.setIfInBounds_toArray, List.set_cons_zero, List.set_cons_succ]
  refine wpAnyH_take (i := 28) (v := ?v20) rfl (by kernel_rfl) (by kernel_rfl) (by kernel_rfl) (fun _ _ _ h => h) (Or.inl ⟨by rfl, ?y20⟩) (by assumption) ?r20
  case y20 => (intro W hSw; (try dsimp only at hSw); go_simp <;> with_reducible rfl)
  change wpAnyH _ _ _ _ _ _ _ (Act.put _ (some 71) _) _
  simp only [Act.put, List.setIfInBounds_toArray, List.set_cons_zero, List.set_cons_succ]
  refine wpAnyH_take (i := 29) (v := ?v21) rfl (by kernel_rfl) (by kernel_rfl) (by kernel_rfl) (fun _ _ _ h => h) (Or.inl ⟨by rfl, ?y21⟩) (by assumption) ?r21
  case y21 => (intro W hSw; (try dsimp only at hSw); go_simp <;> with_reducible rfl)
  change wpAnyH _ _ _ _ _ _ _ (Act.put _ (some 72) _) _
  simp only [Act.put, List.setIfInBounds_toArray, List.set_cons_zero, List.set_cons_succ]
  refine wpAnyH_take (i := 30) (v := ?v22) rfl (by kernel_rfl) (by kernel_rfl) (by kernel_rfl) (fun _ _ _ h => h) (Or.inl ⟨by rfl, ?y22⟩) (by assumption) ?r22
  case y22 => (intro W hSw; (try dsimp only at hSw); go_simp <;> with_reducible rfl)
  change wpAnyH _ _ _ _ _ _ _ (Act.put _ (some 73) _) _
  simp only [Act.put, List.setIfInBounds_toArray, List.set_cons_zero, List.set_cons_succ]
  refine wpAnyH_take (i := 35) (v := ?v23) rfl (by kernel_rfl) (by kernel_rfl) (by kernel_rfl) (fun _ _ _ h => h) (Or.inl ⟨by rfl, ?y23⟩) (by assumption) ?r23
  case y23 => (intro W hSw; (try dsimp only at hSw); go_simp <;> with_reducible rfl)
  change wpAnyH _ _ _ _ _ _ _ (Act.put _ (some 78) _) _
  simp only [Act.put, List.setIfInBounds_toArray, List.set_cons_zero, List.set_cons_succ]
  refine wpAnyH_take (i := 36) (v := ?v24) rfl (by kernel_rfl) (by kernel_rfl) (by kernel_rfl) (fun _ _ _ h => h) (Or.inl ⟨by rfl, ?y24⟩) (by assumption) ?r24
  case y24 => (intro W hSw; (try dsimp only at hSw); go_simp <;> with_reducible rfl)
  change wpAnyH _ _ _ _ _ _ _ (Act.put _ (some 79) _) _
  simp only [Act.put, List.setIfInBounds_toArray, List.set_cons_zero, List.set_cons_succ]
  refine wpAnyH_take (i := 40) (v := ?v25) rfl (by kernel_rfl) (by kernel_rfl) (by kernel_rfl) (fun _ _ _ h => h) (Or.inl ⟨by rfl, ?y25⟩) (by assumption) ?r25
  case y25 => (intro W hSw; (try dsimp only at hSw); go_simp <;> with_reducible rfl)
  change wpAnyH _ _ _ _ _ _ _ (Act.put _ (some 83) _) _
  simp only [Act.put, List.setIfInBounds_toArray, List.set_cons_zero, List.set_cons_succ]
  refine wpAnyH_ready (rs := [16]) (by kernel_rfl) (by simp) ?_
  refine AllReadyH.cons rfl (fun K hK => ?_) AllReadyH.nil
  go_simp
  refine (Cpm.out _ hHeld12.1).mono ?_
  rintro e w9 ⟨rfl, b9⟩
  refine hK.out _ _ (HA.out _ (Kept.go hHeld12.1 b9)) (fun hHeld26 => ?_)
  clear hK K
  refine wpAnyH_ready (rs := [17]) (by kernel_rfl) (by simp) ?_
  refine AllReadyH.cons rfl (fun K hK => ?_) AllReadyH.nil
  go_simp
  refine (Week_any _).mono ?_
  rintro e w10 ⟨rfl, hRT, b10⟩
  have hx := hRT kw (by show kw < 7; omega)
  rw [Hhwb.out] at hx
  have hlt : w9.heap.size < w10.heap.size := names_lt hRT (by show 0 < 7; omega)
  clear hRT
  refine hK.out _ _ (HA.out _ (Kept.go hHeld26.1 b10)) (fun hHeld27 => ?_)
  clear hK K
  clear hHeld hHeld3 hHeld12 hHeld26
  refine held_more (S2 := fun w' => Kept w10 w' ∧ (Kept w0 w' ∧ w'.cell? ⟨w2.heap.size + 1, 0, none⟩ = some (.int .i64 y) ∧ w'.cell? ⟨w2.heap.size + 1, 1, none⟩ = some (.int .i64 mo) ∧ w'.cell? ⟨w2.heap.size + 1, 2, none⟩ = some (.int .i64 d) ∧ w'.cell? ⟨w2.heap.size + 1, 3, none⟩ = some (.int .i64 h) ∧ w'.cell? ⟨w2.heap.size + 1, 4, none⟩ = some (.int .i64 mi) ∧ w'.cell? ⟨w2.heap.size + 1, 5, none⟩ = some (.int .i64 s)) ∧ w'.cell? ⟨w9.heap.size, kw, none⟩ = some (.string WK)) (fun _ h => h.2.1) _ _ _ _ ?_
  have hS2 : ∀ W, Kept w10 W → (Kept w10 W ∧ (Kept w0 W ∧ W.cell? ⟨w2.heap.size + 1, 0, none⟩ = some (.int .i64 y) ∧ W.cell? ⟨w2.heap.size + 1, 1, none⟩ = some (.int .i64 mo) ∧ W.cell? ⟨w2.heap.size + 1, 2, none⟩ = some (.int .i64 d) ∧ W.cell? ⟨w2.heap.size + 1, 3, none⟩ = some (.int .i64 h) ∧ W.cell? ⟨w2.heap.size + 1, 4, none⟩ = some (.int .i64 mi) ∧ W.cell? ⟨w2.heap.size + 1, 5, none⟩ = some (.int .i64 s)) ∧ W.cell? ⟨w9.heap.size, kw, none⟩ = some (.string WK)) := fun W hW => ⟨hW, HA.out _ (Kept.go hHeld27.1 hW), (Below.cell hW (p := ⟨w9.heap.size, kw, none⟩) hlt).trans hx⟩
  have HS2 := Lib.hid hS2
  have hHeldA := HS2.out _ (Below.refl _ _)
  clear hS2 hx hHeld27 hlt
  refine wpAnyH_take (i := 19) (v := ?v28) rfl (by kernel_rfl) (by kernel_rfl) (by kernel_rfl) (fun _ _ _ h => h) (Or.inl ⟨by rfl, ?y28⟩) (by assumption) ?r28
  case y28 => (intro W hSw; (try dsimp only at hSw); go_simp <;> with_reducible rfl)
  change wpAnyH _ _ _ _ _ _ _ (Act.put _ (some 62) _) _
  simp only [Act.put, List.setIfInBounds_toArray, List.set_cons_zero, List.set_cons_succ]
  refine wpAnyH_take (i := 20) (v := ?v29) rfl (by kernel_rfl) (by kernel_rfl) (by kernel_rfl) (fun _ _ _ h => h) (Or.inl ⟨by rfl, ?y29⟩) (by assumption) ?r29
  case y29 => (intro W hSw; (try dsimp only at hSw); go_simp <;> with_reducible rfl)
  change wpAnyH _ _ _ _ _ _ _ (Act.put _ (some 63) _) _
  simp only [Act.put, List.setIfInBounds_toArray, List.set_cons_zero, List.set_cons_succ]
  refine wpAnyH_take (i := 21) (v := ?v30) rfl (by kernel_rfl) (by kernel_rfl) (by kernel_rfl) (fun _ _ _ h => h) (Or.inl ⟨by rfl, ?y30⟩) (by assumption) ?r30
  case y30 => (intro W hSw; (try dsimp only at hSw); go_simp <;> with_reducible rfl)
  change wpAnyH _ _ _ _ _ _ _ (Act.put _ (some 64) _) _
  simp only [Act.put, List.setIfInBounds_toArray, List.set_cons_zero, List.set_cons_succ]
  refine wpAnyH_ready (rs := [24]) (by kernel_rfl) (by simp) ?_
  refine AllReadyH.cons rfl (fun K hK => ?_) AllReadyH.nil
  go_simp
  refine (HcD.out _).mono ?_
  rintro e w11 ⟨rfl, b11⟩
  refine hK.out _ _ (HS2.out _ (Kept.go (Below.refl _ _) b11)) (fun hHeld31 => ?_)
  clear hK K
  clear hHeldA
  refine wpAnyH_take (i := 25) (v := ?v32) rfl (by kernel_rfl) (by kernel_rfl) (by kernel_rfl) (fun _ _ _ h => h) (Or.inl ⟨by rfl, ?y32⟩) (by assumption) ?r32
  case y32 => (intro W hSw; (try dsimp only at hSw); go_simp <;> with_reducible rfl)
  change wpAnyH _ _ _ _ _ _ _ (Act.put _ (some 68) _) _
  simp only [Act.put, List.setIfInBounds_toArray, List.set_cons_zero, List.set_cons_succ]
  refine wpAnyH_take (i := 26) (v := ?v33) rfl (by kernel_rfl) (by kernel_rfl) (by kernel_rfl) (fun _ _ _ h => h) (Or.inl ⟨by rfl, ?y33⟩) (by assumption) ?r33
  case y33 => (intro W hSw; (try dsimp only at hSw); go_simp <;> with_reducible rfl)
  change wpAnyH _ _ _ _ _ _ _ (Act.put _ (some 69) _) _
  simp only [Act.put, List.setIfInBounds_toArray, List.set_cons_zero, List.set_cons_succ]
  refine wpAnyH_ready (rs := [27]) (by kernel_rfl) (by simp) ?_
  refine AllReadyH.cons rfl (fun K hK => ?_) AllReadyH.nil
  go_simp
  refine (Months_any _).mono ?_
  rintro e w12 ⟨rfl, hRT, b12⟩
  have hx := hRT j (by show j < 12; omega)
  rw [Hhmb.out] at hx
  have hlt : w11.heap.size < w12.heap.size := names_lt hRT (by show 0 < 12; omega)
  clear hRT
  refine hK.out _ _ (HS2.out _ (Kept.go hHeld31.1 b12)) (fun hHeld34 => ?_)
  clear hK K
  refine held_more (S2 := fun w' => Kept w12 w' ∧ w'.cell? ⟨w11.heap.size, j, none⟩ = some (.string MN) ∧ (Kept w10 w' ∧ (Kept w0 w' ∧ w'.cell? ⟨w2.heap.size + 1, 0, none⟩ = some (.int .i64 y) ∧ w'.cell? ⟨w2.heap.size + 1, 1, none⟩ = some (.int .i64 mo) ∧ w'.cell? ⟨w2.heap.size + 1, 2, none⟩ = some (.int .i64 d) ∧ w'.cell? ⟨w2.heap.size + 1, 3, none⟩ = some (.int .i64 h) ∧ w'.cell? ⟨w2.heap.size + 1, 4, none⟩ = some (.int .i64 mi) ∧ w'.cell? ⟨w2.heap.size + 1, 5, none⟩ = some (.int .i64 s)) ∧ w'.cell? ⟨w9.heap.size, kw, none⟩ = some (.string WK))) (fun _ h => h.2.2) _ _ _ _ ?_
  have hS3 : ∀ W, Kept w12 W → (Kept w12 W ∧ W.cell? ⟨w11.heap.size, j, none⟩ = some (.string MN) ∧ (Kept w10 W ∧ (Kept w0 W ∧ W.cell? ⟨w2.heap.size + 1, 0, none⟩ = some (.int .i64 y) ∧ W.cell? ⟨w2.heap.size + 1, 1, none⟩ = some (.int .i64 mo) ∧ W.cell? ⟨w2.heap.size + 1, 2, none⟩ = some (.int .i64 d) ∧ W.cell? ⟨w2.heap.size + 1, 3, none⟩ = some (.int .i64 h) ∧ W.cell? ⟨w2.heap.size + 1, 4, none⟩ = some (.int .i64 mi) ∧ W.cell? ⟨w2.heap.size + 1, 5, none⟩ = some (.int .i64 s)) ∧ W.cell? ⟨w9.heap.size, kw, none⟩ = some (.string WK))) := fun W hW => ⟨hW, (Below.cell hW (p := ⟨w11.heap.size, j, none⟩) hlt).trans hx, HS2.out _ (Kept.go hHeld34.1 hW)⟩
  have HS3 := Lib.hid hS3
  have hHeldB := HS3.out _ (Below.refl _ _)
  clear hS3 hx hHeld34 hlt hHeld31
  refine wpAnyH_take (i := 31) (v := ?v35) rfl (by kernel_rfl) (by kernel_rfl) (by kernel_rfl) (fun _ _ _ h => h) (Or.inl ⟨by rfl, ?y35⟩) (by assumption) ?r35
  case y35 => (intro W hSw; (try dsimp only at hSw); go_simp <;> with_reducible rfl)
  change wpAnyH _ _ _ _ _ _ _ (Act.put _ (some 74) _) _
  simp only [Act.put, List.setIfInBounds_toArray, List.set_cons_zero, List.set_cons_succ]
  refine wpAnyH_take (i := 32) (v := ?v36) rfl (by kernel_rfl) (by kernel_rfl) (by kernel_rfl) (fun _ _ _ h => h) (Or.inl ⟨by rfl, ?y36⟩) (by assumption) ?r36
  case y36 => (intro W hSw; (try dsimp only at hSw); go_simp <;> with_reducible rfl)
  change wpAnyH _ _ _ _ _ _ _ (Act.put _ (some 75) _) _
  simp only [Act.put, List.setIfInBounds_toArray, List.set_cons_zero, List.set_cons_succ]
  refine wpAnyH_take (i := 33) (v := ?v37) rfl (by kernel_rfl) (by kernel_rfl) (by kernel_rfl) (fun _ _ _ h => h) (Or.inl ⟨by rfl, ?y37⟩) (by assumption) ?r37
  case y37 => (intro W hSw; (try dsimp only at hSw); go_simp <;> with_reducible rfl)
  change wpAnyH _ _ _ _ _ _ _ (Act.put _ (some 76) _) _
  simp only [Act.put, List.setIfInBounds_toArray, List.set_cons_zero, List.set_cons_succ]
  refine wpAnyH_take (i := 34) (v := ?v38) rfl (by kernel_rfl) (by kernel_rfl) (by kernel_rfl) (fun _ _ _ h => h) (Or.inl ⟨by rfl, ?y38⟩) (by assumption) ?r38
  case y38 => (intro W hSw; (try dsimp only at hSw); go_simp <;> with_reducible rfl)
  change wpAnyH _ _ _ _ _ _ _ (Act.put _ (some 77) _) _
  simp only [Act.put, List.setIfInBounds_toArray, List.set_cons_zero, List.set_cons_succ]
  refine wpAnyH_ready (rs := [37]) (by kernel_rfl) (by simp) ?_
  refine AllReadyH.cons rfl (fun K hK => ?_) AllReadyH.nil
  go_simp
  refine (HcF.out _).mono ?_
  rintro e w13 ⟨rfl, b13⟩
  refine hK.out _ _ (HS3.out _ (Kept.go (Below.refl _ _) b13)) (fun hHeld39 => ?_)
  clear hK K
  clear hHeldB
  refine wpAnyH_take (i := 38) (v := ?v40) rfl (by kernel_rfl) (by kernel_rfl) (by kernel_rfl) (fun _ _ _ h => h) (Or.inl ⟨by rfl, ?y40⟩) (by assumption) ?r40
  case y40 => (intro W hSw; (try dsimp only at hSw); go_simp <;> with_reducible rfl)
  change wpAnyH _ _ _ _ _ _ _ (Act.put _ (some 81) _) _
  simp only [Act.put, List.setIfInBounds_toArray, List.set_cons_zero, List.set_cons_succ]
  refine wpAnyH_take (i := 39) (v := ?v41) rfl (by kernel_rfl) (by kernel_rfl) (by kernel_rfl) (fun _ _ _ h => h) (Or.inl ⟨by rfl, ?y41⟩) (by assumption) ?r41
  case y41 => (intro W hSw; (try dsimp only at hSw); go_simp <;> with_reducible rfl)
  change wpAnyH _ _ _ _ _ _ _ (Act.put _ (some 82) _) _
  simp only [Act.put, List.setIfInBounds_toArray, List.set_cons_zero, List.set_cons_succ]
  refine wpAnyH_take (i := 41) (v := ?v42) rfl (by kernel_rfl) (by kernel_rfl) (by kernel_rfl) (fun _ _ _ h => h) (Or.inl ⟨by rfl, ?y42⟩) (by assumption) ?r42
  case y42 => (intro W hSw; (try dsimp only at hSw); go_simp <;> with_reducible rfl)
  change wpAnyH _ _ _ _ _ _ _ (Act.put _ (some 84) _) _
  simp only [Act.put, List.setIfInBounds_toArray, List.set_cons_zero, List.set_cons_succ]
  refine wpAnyH_take (i := 42) (v := ?v43) rfl (by kernel_rfl) (by kernel_rfl) (by kernel_rfl) (fun _ _ _ h => h) (Or.inl ⟨by rfl, ?y43⟩) (by assumption) ?r43
  case y43 => (intro W hSw; (try dsimp only at hSw); go_simp <;> with_reducible rfl)
  change wpAnyH _ _ _ _ _ _ _ (Act.put _ (some 85) _) _
  simp only [Act.put, List.setIfInBounds_toArray, List.set_cons_zero, List.set_cons_succ]
  refine wpAnyH_take (i := 43) (v := ?v44) rfl (by kernel_rfl) (by kernel_rfl) (by kernel_rfl) (fun _ _ _ h => h) (Or.inl ⟨by rfl, ?y44⟩) (by assumption) ?r44
  case y44 => (intro W hSw; (try dsimp only at hSw); go_simp <;> with_reducible rfl)
  change wpAnyH _ _ _ _ _ _ _ (Act.put _ (some 86) _) _
  simp only [Act.put, List.setIfInBounds_toArray, List.set_cons_zero, List.set_cons_succ]
  refine wpAnyH_take (i := 44) (v := ?v45) rfl (by kernel_rfl) (by kernel_rfl) (by kernel_rfl) (fun _ _ _ h => h) (Or.inl ⟨by rfl, ?y45⟩) (by assumption) ?r45
  case y45 => (intro W hSw; (try dsimp only at hSw); go_simp <;> with_reducible rfl)
  change wpAnyH _ _ _ _ _ _ _ (Act.put _ (some 87) _) _
  simp only [Act.put, List.setIfInBounds_toArray, List.set_cons_zero, List.set_cons_succ]
  refine wpAnyH_take (i := 45) (v := ?v46) rfl (by kernel_rfl) (by kernel_rfl) (by kernel_rfl) (fun _ _ _ h => h) (Or.inl ⟨by rfl, ?y46⟩) (by assumption) ?r46
  case y46 => (intro W hSw; (try dsimp only at hSw); go_simp <;> with_reducible rfl)
  change wpAnyH _ _ _ _ _ _ _ (Act.put _ (some 2) _) _
  simp only [Act.put, List.setIfInBounds_toArray, List.set_cons_zero, List.set_cons_succ]
  refine wpAnyH_done (by kernel_rfl) ?_ _
  have hk13 : Kept w0 w13 := hHeld39.2.2.2.1.1
  go_wp2
  go_ret
  exact ⟨rfl, Kept.onto B0 hk13⟩
end Go.Proofs.YtomnkhehknklkaaDoor
