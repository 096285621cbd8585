/-
  Runs of comparisons and slices of texts; the walk of the law DateOrder. Conditions: the library's table of powers of ten holds what it is laid with.
-/
import Derived.Test.YtocmppafmaehcaaDoorLA
namespace Go.Proofs.YtocmppafmaehcaaDoor
open Go.RowKit
open Go.Lib
open Go.Op (bytesLess)

theorem lss_run (a b : List UInt8) (v : Bool) (h : bytesLess a b = v) (W : World) : (Op.stringOp .lss ⟨a.toArray⟩ ⟨b.toArray⟩).run Tryd.prog W = .ok (.bool v) W := by
  subst h
  unfold Op.stringOp
  rw [Lib.toList_data, Lib.toList_data]
  rfl
theorem eql_run (a b : List UInt8) (v : Bool) (h : decide (a = b) = v) (W : World) : (Op.stringOp .eql ⟨a.toArray⟩ ⟨b.toArray⟩).run Tryd.prog W = .ok (.bool v) W := by
  subst h
  unfold Op.stringOp
  rw [Lib.toList_data, Lib.toList_data]
  have : ((⟨a.toArray⟩ : ByteArray).data.toList == (⟨b.toArray⟩ : ByteArray).data.toList) = decide (a = b) := by
    show (a == b) = _
    by_cases h : a = b
    · subst h; simp
    · simp [h]
  rw [this]
  rfl
theorem bytes_eq (a : ByteArray) (l : List UInt8) (h : a.data.toList = l) : a = ⟨l.toArray⟩ := by
  apply ByteArray.ext
  rw [← h]
theorem take_extract (s : ByteArray) (k : Nat) : (s.extract 0 k).data.toList = s.data.toList.take k := by
  simp [ByteArray.data_extract]
theorem slice_from (l r : List UInt8) (k : Nat) (hk : k ≤ l.length) (e : l.drop k = r) (W : World) : (Instr.slice 9 (.string ⟨l.toArray⟩) (some (.int .i64 (k : Int))) none none).run Tryd.prog W = .ok (.string ⟨r.toArray⟩) W :=
  (run_slice_string_l (P := Tryd.prog) W 9 _ Tryd.underlying9 .i64 (k : Int) (by omega) (by show (k : Int) ≤ (l.toArray.size : Int); simpa using hk)).trans (by
    congr 2
    refine bytes_eq _ _ ?_
    rw [show ((k : Int)).toNat = k from by omega, drop_extract]
    exact e)
theorem slice_upto (l r : List UInt8) (k : Nat) (hk : k ≤ l.length) (e : l.take k = r) (W : World) : (Instr.slice 9 (.string ⟨l.toArray⟩) none (some (.int .i64 (k : Int))) none).run Tryd.prog W = .ok (.string ⟨r.toArray⟩) W :=
  (run_slice_string_h (P := Tryd.prog) W 9 _ Tryd.underlying9 .i64 (k : Int) (by omega) (by show (k : Int) ≤ (l.toArray.size : Int); simpa using hk)).trans (by
    congr 2
    refine bytes_eq _ _ ?_
    rw [show ((k : Int)).toNat = k from by omega, take_extract]
    exact e)
theorem clamp_clamp (t : Int) : clampT (clampT t) = clampT t := clamp_self _ (clampT_bd t)
theorem clamp_add (t : Int) (h : clampT t ≤ highT - 86400) : clampT (clampT t + 86400) = clampT t + 86400 := by
  have := clampT_bd t
  exact clamp_self _ ⟨by omega, by omega⟩
theorem order_facts (a : Int) (h : lowT ≤ a ∧ a ≤ highT) (h2 : a + 86400 ≤ highT) : bytesLess (dayL a) (dayL (a + 86400)) = true ∧ (printL a).drop 10 = (printL (a + 86400)).drop 10 ∧ (printL a).take 10 = dayL a := by
  have hd := days_add a 1 h ⟨by omega, by omega⟩
  have hc := clock_add a 1 h ⟨by omega, by omega⟩
  rw [show a + 1 * 86400 = a + 86400 by omega] at hd hc
  refine ⟨(day_cmp a (a + 86400)).2.1.2 (by omega), ?_, (print_parts a).1⟩
  rw [(print_parts a).2.1, (print_parts (a + 86400)).2.1, hc]
theorem lss_fact (a b : List UInt8) : bytesLess (⟨a.toArray⟩ : ByteArray).toList (⟨b.toArray⟩ : ByteArray).toList = bytesLess a b := by rw [Lib.toList_data, Lib.toList_data]
theorem eql_fact (a b : List UInt8) : ((⟨a.toArray⟩ : ByteArray).toList == (⟨b.toArray⟩ : ByteArray).toList) = decide (a = b) := by
  rw [Lib.toList_data, Lib.toList_data]
  show (a == b) = _
  by_cases h : a = b
  · subst h; simp
  · simp [h]
set_option maxRecDepth 100000 in
set_option maxHeartbeats 2000000 in
theorem law_order (t u : Int) (w : World) (hT : Tab w) : Calls Tryd.prog 8 #[.int .i64 t, .int .i64 u] w (Yes w) := by
  have hf := first_any w hT
  have HT := Lib.hid hT
  clear hT
  have hcmp := print_cmp t u
  have cb := clampT_bd t
  have cu := clampT_bd u
  have hl := lss_fact (printL t) (printL u)
  have he := eql_fact (printL t) (printL u)
  rw [show bytesLess (printL t) (printL u) = decide (clampT t < clampT u) by rw [Bool.eq_iff_iff, decide_eq_true_eq]; exact hcmp.2.1] at hl
  rw [show decide (printL t = printL u) = (clampT t == clampT u) by rw [Bool.eq_iff_iff, decide_eq_true_eq, beq_iff_eq]; exact hcmp.2.2] at he
  clear hcmp
  have hpt := fun W (h : Tab W) => print_any t W h
  have hpu := fun W (h : Tab W) => print_any u W h
  unfold TextOut at hpt hpu
  generalize (⟨(printL t).toArray⟩ : ByteArray) = P at *
  generalize (⟨(printL u).toArray⟩ : ByteArray) = U at *
  obtain ⟨a, ha⟩ : ∃ a, clampT t = a := ⟨_, rfl⟩
  obtain ⟨b, hb⟩ : ∃ b, clampT u = b := ⟨_, rfl⟩
  rw [ha] at cb hl he
  rw [hb] at cu hl he
  have HA := Lib.hid (show max lowT (min highT t) = a from ha)
  have HB := Lib.hid (show max lowT (min highT u) = b from hb)
  clear ha hb
  obtain ⟨x, hx⟩ : ∃ x, decide (a < b) = x := ⟨_, rfl⟩
  obtain ⟨y, hy⟩ : ∃ y, (a == b) = y := ⟨_, rfl⟩
  rw [hx] at hl
  rw [hy] at he
  have HX := Lib.hid hx
  have HY := Lib.hid hy
  have HL := Lib.hid hl
  have HE := Lib.hid he
  have HPT := Lib.hid hpt
  have HPU := Lib.hid hpu
  clear hx hy hl he hpt hpu
  have cb0 : -62135596800 ≤ a := cb.1
  have cb1 : a ≤ 253402300799 := cb.2
  have hof := fun (h2 : a + 86400 ≤ highT) => order_facts a cb h2
  have HO := Lib.hid hof
  clear cb cu hof
  go_enter Tryd.func8, Tryd.ntmps8
  go_wp2_with fail
  refine hf.mono ?_
  clear hf
  rintro e w1 ⟨rfl, B1⟩
  go_wp2_with fail
  refine (Low_any w1).mono ?_
  rintro e w2 ⟨rfl, b2⟩
  have B2 := B1.trans (b2.mono B1.size)
  clear B1 b2
  go_wp2_with fail
  refine (High_any w2).mono ?_
  rintro e w3 ⟨rfl, b3⟩
  have B3 := B2.trans (b3.mono B2.size)
  clear B2 b3
  have hA := HA.out
  go_wp2_with fail
  refine (Low_any w3).mono ?_
  rintro e w4 ⟨rfl, b4⟩
  have B4 := B3.trans (b4.mono B3.size)
  clear B3 b4
  go_wp2_with fail
  refine (High_any w4).mono ?_
  rintro e w5 ⟨rfl, b5⟩
  have B5 := B4.trans (b5.mono B4.size)
  clear B4 b5
  have hB := HB.out
  have hx := HX.out
  go_wp2_with fail
  refine (HPT.out w5 (HT.out.below B5)).mono ?_
  rintro e w6 ⟨rfl, b6⟩
  have B6 := B5.trans (b6.mono B5.size)
  clear B5 b6 hA hB
  go_wp2_with fail
  refine (HPU.out w6 (HT.out.below B6)).mono ?_
  rintro e w7 ⟨rfl, b7⟩
  have B7 := B6.trans (b7.mono B6.size)
  clear B6 b7
  have hl := HL.out
  have hy := HY.out
  go_wp2_with fail
  refine (HPT.out w7 (HT.out.below B7)).mono ?_
  rintro e w8 ⟨rfl, b8⟩
  have B8 := B7.trans (b8.mono B7.size)
  clear B7 b8
  go_wp2_with fail
  refine (HPU.out w8 (HT.out.below B8)).mono ?_
  rintro e w9 ⟨rfl, b9⟩
  have B9 := B8.trans (b9.mono B8.size)
  clear B8 b9 hl
  have he := HE.out
  go_wp2_with fail
  refine (show Calls Tryd.prog 24 #[] w9 (IntOut 253402300799 w9) from High_any w9).mono ?_
  rintro e w10 ⟨rfl, b10⟩
  have B10 := B9.trans (b10.mono B9.size)
  clear B9 b10 he hx hy HL HE HX HY
  by_cases hbig : 253402214399 < a
  · go_wp2
    go_ret
    exact ⟨rfl, B10⟩
  · have hle : a ≤ 253402214399 := by omega
    obtain ⟨o1, o2, o3⟩ := HO.out (show a + 86400 ≤ 253402300799 by omega)
    have hpa := fun W (h : Tab W) => print_any a W h
    have hpz := fun W (h : Tab W) => print_any (a + 86400) W h
    have hda := fun W (h : Tab W) => day_any a W h
    have hdz := fun W (h : Tab W) => day_any (a + 86400) W h
    have zp := (print_parts a).2.2
    have zq := (print_parts (a + 86400)).2.2
    have s1 : ∀ W, (Instr.slice 9 (.string ⟨(printL a).toArray⟩) (some (.int .i64 10)) none none).run Tryd.prog W = .ok (.string ⟨((printL a).drop 10).toArray⟩) W := fun W => slice_from (printL a) _ 10 (by omega) rfl W
    have s2 : ∀ W, (Instr.slice 9 (.string ⟨(printL (a + 86400)).toArray⟩) (some (.int .i64 10)) none none).run Tryd.prog W = .ok (.string ⟨((printL a).drop 10).toArray⟩) W := fun W => slice_from (printL (a + 86400)) _ 10 (by omega) o2.symm W
    have s3 : ∀ W, (Instr.slice 9 (.string ⟨(printL a).toArray⟩) none (some (.int .i64 10)) none).run Tryd.prog W = .ok (.string ⟨(dayL a).toArray⟩) W := fun W => slice_upto (printL a) _ 10 (by omega) o3 W
    have l1 := (lss_fact (dayL a) (dayL (a + 86400))).trans o1
    unfold TextOut at hpa hpz hda hdz
    clear o1 o2 o3 zp zq HO
    generalize (⟨((printL a).drop 10).toArray⟩ : ByteArray) = R at *
    generalize (⟨(printL a).toArray⟩ : ByteArray) = PA at *
    generalize (⟨(printL (a + 86400)).toArray⟩ : ByteArray) = PZ at *
    generalize (⟨(dayL a).toArray⟩ : ByteArray) = DA at *
    generalize (⟨(dayL (a + 86400)).toArray⟩ : ByteArray) = DZ at *
    have S1 := Lib.hid s1
    have S2 := Lib.hid s2
    have S3 := Lib.hid s3
    have HL1 := Lib.hid l1
    have HPA := Lib.hid hpa
    have HPZ := Lib.hid hpz
    clear s1 s2 s3 l1 hpa hpz hbig
    go_wp2_with fail
    refine (HPA.out w10 (HT.out.below B10)).mono ?_
    rintro e w11 ⟨rfl, b11⟩
    have B11 := B10.trans (b11.mono B10.size)
    clear B10 b11
    go_wp2_with fail
    refine (HPZ.out w11 (HT.out.below B11)).mono ?_
    rintro e w12 ⟨rfl, b12⟩
    have B12 := B11.trans (b12.mono B11.size)
    clear B11 b12
    have T12 := HT.out.below B12
    have da := fun W (hW : Kept w12 W) => hda W (hW.tab T12)
    have dz := fun W (hW : Kept w12 W) => hdz W (hW.tab T12)
    have HDA := Lib.hid da
    have HDZ := Lib.hid dz
    clear da dz hda hdz T12
    go_wp2_with fail
    have s1 := S1.out
    have s2 := S2.out
    have s3 := S3.out
    have l1 := HL1.out
    have hadd : IntKind.i64.wrap (a + 86400) = a + 86400 := IntWalk.i64_in _ (by omega)
    have hkk : Kept w12 w12 := Below.refl _ _
    go_region_held3 (fun w' => Kept w12 w') (first | assumption | exact Kept.go (by assumption) (by assumption) | exact Kept.drew (by assumption))
      (first
        | (go_at_call 18; (with_reducible refine (HDA.out _ (by assumption)).mono ?_); rintro e w' ⟨rfl, b⟩)
        | (go_at_call 18; (with_reducible refine (HDZ.out _ (by assumption)).mono ?_); rintro e w' ⟨rfl, b⟩))
    all_goals
      go_wp2
      go_ret
      refine ⟨rfl, Kept.onto B12 ?_⟩
      first | assumption | exact Kept.go (by assumption) (by assumption)
end Go.Proofs.YtocmppafmaehcaaDoor
