/-
  Of the proofs of layer 7 (values of JSON): the parts EJ EK. No conditions.
-/
import Derived.Test.YtchgelfomnbpaaaDoorZ35
import Derived.Laws.BitsLemmas
namespace Go.Proofs.YtchgelfomnbpaaaDoor
open Go.RowKit
open Go.Lib

/-- A builder at b holds these bytes, nothing else was touched. -/
def BWr (B b : Nat) (l : List UInt8) (w : World) (e : Ending) (w' : World) : Prop :=
  e = .returned (.tuple #[]) ∧ Lib.BuilderAtF 61 5 B b (.pointer (some ⟨b, 0, none⟩)) (byteCells l) w' ∧ Below B w w' ∧ Lib.OthersKept 5 (some b) w w'
theorem byteCells_one (a : List UInt8) (c : UInt8) : byteCells a ++ [.int .u8 c.toNat] = byteCells (a ++ [c]) := by
  rw [byteCells_append]; rfl
def digL : ByteArray := ⟨#[48, 49, 50, 51, 52, 53, 54, 55, 56, 57, 97, 98, 99, 100, 101, 102]⟩
theorem digL_size : digL.size = 16 := rfl
theorem digL_at : ∀ (d : Nat) (h : d < digL.size), digL[d] = hx d := by
  intro d h
  rw [digL_size] at h
  match d, h with
  | 0, _ => rfl
  | 1, _ => rfl
  | 2, _ => rfl
  | 3, _ => rfl
  | 4, _ => rfl
  | 5, _ => rfl
  | 6, _ => rfl
  | 7, _ => rfl
  | 8, _ => rfl
  | 9, _ => rfl
  | 10, _ => rfl
  | 11, _ => rfl
  | 12, _ => rfl
  | 13, _ => rfl
  | 14, _ => rfl
  | 15, _ => rfl
  | d + 16, h => exact absurd h (by omega)
theorem digL_run (W : World) (x : Int) (d : Nat) (hx0 : x = d) (hd : d < 16) : (Instr.index 9 (.string ⟨#[48, 49, 50, 51, 52, 53, 54, 55, 56, 57, 97, 98, 99, 100, 101, 102]⟩) (.int .i32 x)).run Tryd.prog W = .ok (.int .u8 (hx d).toNat) W := by
  subst hx0
  have h := run_index_string (P := Tryd.prog) W 9 digL .i32 (d : Int) Tryd.underlying9
  rw [dif_pos ⟨by omega, by rw [digL_size]; omega⟩] at h
  have e : digL[((d : Int)).toNat]'(by rw [digL_size]; omega) = hx d := digL_at d (by rw [digL_size]; exact hd)
  rw [e] at h
  exact h
theorem mask15 (x : Int) (h0 : 0 ≤ x) (h1 : x < 2147483648) : bits .and .i32 x 15 = x % 16 := bits_mask .i32 31 (by decide) wraps_i32 4 (by decide) x h0 h1
set_option maxRecDepth 100000 in
set_option maxHeartbeats 2000000 in
theorem writeUnit_any (B b : Nat) (acc : List UInt8) (p : Int) (w : World) (h0 : 0 ≤ p) (h1 : p ≤ 65535) (hI : Lib.IsBuilderF 61 5 B b (byteCells acc) w) (hl : acc.length ≤ 1000000000) (hB : B ≤ w.heap.size) :
    Calls Tryd.prog 86 #[.pointer (some ⟨b, 0, none⟩), .int .i32 p] w (BWr B b (acc ++ ([92, 117] ++ hex4 p.toNat)) w) := by
  have hw := sbWrite B b _ ⟨#[92, 117]⟩ w hI (by rw [Lib.byteCells_length]; show _ + 2 ≤ _; omega) hB
  rw [byteCells_str] at hw
  go_enter Tryd.func86, Tryd.ntmps86
  go_wp2_with fail
  refine hw.mono ?_
  clear hw
  rintro e w1 ⟨rfl, h2, b2, k2⟩
  have hz2 := b2.size
  go_wp2
  go_loopw [7] (fun i wr => ∃ k : Nat, k ≤ 4 ∧ i = .int .i64 k ∧ Lib.BuilderAtF 61 5 B b (.pointer (some ⟨b, 0, none⟩)) (byteCells (acc ++ [92, 117] ++ (hex4 p.toNat).take k)) wr ∧ Below B w wr ∧ Lib.OthersKept 5 (some b) w wr ∧ B ≤ wr.heap.size) (fun i _ => 4 - (RowKit.intOf i).toNat)
  case atStart => exact ⟨0, by omega, rfl, by simpa using h2, b2, k2, by omega⟩
  case round =>
    obtain ⟨k, hk, rfl, hI2, hbw, hok, hBw⟩ := hrel
    have hln : (acc ++ [92, 117] ++ (hex4 p.toNat).take k).length ≤ acc.length + 6 := by
      rw [List.length_append, List.length_append, List.length_take]; simp; omega
    by_cases hlt : k < 4
    · have hc : k = 0 ∨ k = 1 ∨ k = 2 ∨ k = 3 := by omega
      rcases hc with rfl | rfl | rfl | rfl
      · have hq : bits .and .i32 (p / 4096) 15 = ((p.toNat / 4096 % 16 : Nat) : Int) := by rw [mask15 _ (by omega) (by omega)]; omega
        have hd : p.toNat / 4096 % 16 < 16 := by omega
        have HT := Lib.hid (show (hex4 p.toNat).take (0 + 1) = (hex4 p.toNat).take 0 ++ [hx (p.toNat / 4096 % 16)] from rfl)
        have HX := Lib.hid (fun W => digL_run W _ _ hq hd)
        have hix := fun W => digL_run W _ _ hq hd
        clear hq
        generalize p.toNat / 4096 % 16 = d at *
        generalize (hex4 p.toNat).take 0 = ys at *
        clear hlt hk HX
        go_wp2_with fail
        have hr := sbByte B b _ ((hx d).toNat : Int) wr (Or.inr hI2) (by rw [Lib.byteCells_length]; omega) hBw
        rw [byteCells_one] at hr
        refine hr.mono ?_
        clear hr
        rintro e w2 ⟨rfl, g1, g2, g3⟩
        have hz := g2.size
        go_wp2
        go_roundw
        case rel => exact ⟨1, by omega, by go_num, by rw [HT.out, ← List.append_assoc]; exact g1, hbw.trans g2, hok.trans g3, by omega⟩
        case measure => simp [RowKit.intOf]
      · have hq : bits .and .i32 (p / 256) 15 = ((p.toNat / 256 % 16 : Nat) : Int) := by rw [mask15 _ (by omega) (by omega)]; omega
        have hd : p.toNat / 256 % 16 < 16 := by omega
        have HT := Lib.hid (show (hex4 p.toNat).take (1 + 1) = (hex4 p.toNat).take 1 ++ [hx (p.toNat / 256 % 16)] from rfl)
        have HX := Lib.hid (fun W => digL_run W _ _ hq hd)
        have hix := fun W => digL_run W _ _ hq hd
        clear hq
        generalize p.toNat / 256 % 16 = d at *
        generalize (hex4 p.toNat).take 1 = ys at *
        clear hlt hk HX
        go_wp2_with fail
        have hr := sbByte B b _ ((hx d).toNat : Int) wr (Or.inr hI2) (by rw [Lib.byteCells_length]; omega) hBw
        rw [byteCells_one] at hr
        refine hr.mono ?_
        clear hr
        rintro e w2 ⟨rfl, g1, g2, g3⟩
        have hz := g2.size
        go_wp2
        go_roundw
        case rel => exact ⟨2, by omega, by go_num, by rw [HT.out, ← List.append_assoc]; exact g1, hbw.trans g2, hok.trans g3, by omega⟩
        case measure => simp [RowKit.intOf]
      · have hq : bits .and .i32 (p / 16) 15 = ((p.toNat / 16 % 16 : Nat) : Int) := by rw [mask15 _ (by omega) (by omega)]; omega
        have hd : p.toNat / 16 % 16 < 16 := by omega
        have HT := Lib.hid (show (hex4 p.toNat).take (2 + 1) = (hex4 p.toNat).take 2 ++ [hx (p.toNat / 16 % 16)] from rfl)
        have HX := Lib.hid (fun W => digL_run W _ _ hq hd)
        have hix := fun W => digL_run W _ _ hq hd
        clear hq
        generalize p.toNat / 16 % 16 = d at *
        generalize (hex4 p.toNat).take 2 = ys at *
        clear hlt hk HX
        go_wp2_with fail
        have hr := sbByte B b _ ((hx d).toNat : Int) wr (Or.inr hI2) (by rw [Lib.byteCells_length]; omega) hBw
        rw [byteCells_one] at hr
        refine hr.mono ?_
        clear hr
        rintro e w2 ⟨rfl, g1, g2, g3⟩
        have hz := g2.size
        go_wp2
        go_roundw
        case rel => exact ⟨3, by omega, by go_num, by rw [HT.out, ← List.append_assoc]; exact g1, hbw.trans g2, hok.trans g3, by omega⟩
        case measure => simp [RowKit.intOf]
      · have hq : bits .and .i32 (p) 15 = ((p.toNat % 16 : Nat) : Int) := by rw [mask15 _ (by omega) (by omega)]; omega
        have hd : p.toNat % 16 < 16 := by omega
        have HT := Lib.hid (show (hex4 p.toNat).take (3 + 1) = (hex4 p.toNat).take 3 ++ [hx (p.toNat % 16)] from rfl)
        have HX := Lib.hid (fun W => digL_run W _ _ hq hd)
        have hix := fun W => digL_run W _ _ hq hd
        clear hq
        generalize p.toNat % 16 = d at *
        generalize (hex4 p.toNat).take 3 = ys at *
        clear hlt hk HX
        go_wp2_with fail
        have hr := sbByte B b _ ((hx d).toNat : Int) wr (Or.inr hI2) (by rw [Lib.byteCells_length]; omega) hBw
        rw [byteCells_one] at hr
        refine hr.mono ?_
        clear hr
        rintro e w2 ⟨rfl, g1, g2, g3⟩
        have hz := g2.size
        go_wp2
        go_roundw
        case rel => exact ⟨4, by omega, by go_num, by rw [HT.out, ← List.append_assoc]; exact g1, hbw.trans g2, hok.trans g3, by omega⟩
        case measure => simp [RowKit.intOf]
    · have hk4 : k = 4 := by omega
      subst hk4
      have H4 := Lib.hid (show acc ++ [92, 117] ++ (hex4 p.toNat).take 4 = acc ++ ([92, 117] ++ hex4 p.toNat) by rw [List.append_assoc]; rfl)
      go_wp2
      first | go_end0 | refine bodyPost_ret (results_none rfl _ _ _) rfl ?_
      exact ⟨rfl, by have q := hI2; rw [H4.out] at q; exact q, hbw, hok⟩

theorem enc_one (p : Int) : enc [p] = encodeRune p := by simp [enc]
theorem jP_esc (p : Int) (h1 : p ≠ 34) (h2 : p ≠ 92) (h3 : p ≠ 10) (h4 : p ≠ 13) (h5 : p ≠ 9) : enc (jP p) = if told p = true then [92, 117] ++ hex4 p.toNat else encodeRune p := by
  unfold jP
  rw [if_neg h1, if_neg h2, if_neg h3, if_neg h4, if_neg h5]
  split
  · rw [enc_append, show enc [92, 117] = [92, 117] by decide, enc_ascii _ (fun c hc => by have := hex4_mem _ c hc; omega)]
  · exact enc_one p
def toldB (p : Int) : Bool := decide (p = 127 ∨ p = 8232 ∨ p = 8233 ∨ p = 60 ∨ p = 62 ∨ p = 38)
set_option maxRecDepth 100000 in
set_option maxHeartbeats 4000000 in
theorem writeInQuotes_any (B b : Nat) (acc : List UInt8) (p : Int) (w : World) (h0 : 0 ≤ p) (h1 : p ≤ 1114111) (hI : Lib.IsBuilderF 61 5 B b (byteCells acc) w) (hl : acc.length ≤ 900000000) (hB : B ≤ w.heap.size) :
    Calls Tryd.prog 63 #[.pointer (some ⟨b, 0, none⟩), .int .i32 p] w (BWr B b (acc ++ enc (jP p)) w) := by
  have hbc : (byteCells acc).length = acc.length := Lib.byteCells_length _
  have HBC := Lib.hid hbc
  clear hbc
  by_cases c1 : p = 34
  · have HV := Lib.hid (show acc ++ enc (jP p) = acc ++ [92] ++ encodeRune p by rw [c1, List.append_assoc]; congr 1)
    have b1 : (p == 34) = true := by rw [beq_iff_eq]; exact c1
    clear c1
    have hw := sbByte B b _ ((92 : UInt8).toNat : Int) w hI (by rw [HBC.out]; omega) hB
    rw [byteCells_one] at hw
    go_enter Tryd.func63, Tryd.ntmps63
    go_wp2_with fail
    refine hw.mono ?_
    clear hw
    rintro e w1 ⟨rfl, g1, g2, g3⟩
    have hz := g2.size
    have hr := sbRune B b _ p (by omega) (by omega) w1 (Or.inr g1) (by rw [Lib.byteCells_length, List.length_append]; simp; omega) (by omega)
    rw [byteCells_rune] at hr
    go_wp2_with fail
    refine hr.mono ?_
    clear hr
    rintro e w2 ⟨rfl, j1, j2, j3⟩
    go_wp2
    first | go_end0 | refine bodyPost_ret (results_none rfl _ _ _) rfl ?_
    exact ⟨rfl, by rw [HV.out]; exact j1, g2.trans j2, g3.trans j3⟩
  by_cases c2 : p = 92
  · have HV := Lib.hid (show acc ++ enc (jP p) = acc ++ [92] ++ encodeRune p by rw [c2, List.append_assoc]; congr 1)
    have b2 : (p == 92) = true := by rw [beq_iff_eq]; exact c2
    have b1 : (p == 34) = false := by rw [beq_eq_false_iff_ne]; exact c1
    clear c1 c2
    have hw := sbByte B b _ ((92 : UInt8).toNat : Int) w hI (by rw [HBC.out]; omega) hB
    rw [byteCells_one] at hw
    go_enter Tryd.func63, Tryd.ntmps63
    go_wp2_with fail
    refine hw.mono ?_
    clear hw
    rintro e w1 ⟨rfl, g1, g2, g3⟩
    have hz := g2.size
    have hr := sbRune B b _ p (by omega) (by omega) w1 (Or.inr g1) (by rw [Lib.byteCells_length, List.length_append]; simp; omega) (by omega)
    rw [byteCells_rune] at hr
    go_wp2_with fail
    refine hr.mono ?_
    clear hr
    rintro e w2 ⟨rfl, j1, j2, j3⟩
    go_wp2
    first | go_end0 | refine bodyPost_ret (results_none rfl _ _ _) rfl ?_
    exact ⟨rfl, by rw [HV.out]; exact j1, g2.trans j2, g3.trans j3⟩
  by_cases c3 : p = 10
  · have HV := Lib.hid (show acc ++ enc (jP p) = acc ++ [92, 110] by rw [c3]; congr 1)
    have b3 : (p == 10) = true := by rw [beq_iff_eq]; exact c3
    have b1 : (p == 34) = false := by rw [beq_eq_false_iff_ne]; exact c1
    have b2 : (p == 92) = false := by rw [beq_eq_false_iff_ne]; exact c2
    clear c1 c2 c3
    have hw := sbWrite B b _ ⟨#[92, 110]⟩ w hI (by rw [HBC.out]; show _ + 2 ≤ _; omega) hB
    rw [byteCells_str] at hw
    go_enter Tryd.func63, Tryd.ntmps63
    go_wp2_with fail
    refine hw.mono ?_
    clear hw
    rintro e w1 ⟨rfl, g1, g2, g3⟩
    go_wp2
    first | go_end0 | refine bodyPost_ret (results_none rfl _ _ _) rfl ?_
    exact ⟨rfl, by rw [HV.out]; exact g1, g2, g3⟩
  by_cases c4 : p = 13
  · have HV := Lib.hid (show acc ++ enc (jP p) = acc ++ [92, 114] by rw [c4]; congr 1)
    have b4 : (p == 13) = true := by rw [beq_iff_eq]; exact c4
    have b1 : (p == 34) = false := by rw [beq_eq_false_iff_ne]; exact c1
    have b2 : (p == 92) = false := by rw [beq_eq_false_iff_ne]; exact c2
    have b3 : (p == 10) = false := by rw [beq_eq_false_iff_ne]; exact c3
    clear c1 c2 c3 c4
    have hw := sbWrite B b _ ⟨#[92, 114]⟩ w hI (by rw [HBC.out]; show _ + 2 ≤ _; omega) hB
    rw [byteCells_str] at hw
    go_enter Tryd.func63, Tryd.ntmps63
    go_wp2_with fail
    refine hw.mono ?_
    clear hw
    rintro e w1 ⟨rfl, g1, g2, g3⟩
    go_wp2
    first | go_end0 | refine bodyPost_ret (results_none rfl _ _ _) rfl ?_
    exact ⟨rfl, by rw [HV.out]; exact g1, g2, g3⟩
  by_cases c5 : p = 9
  · have HV := Lib.hid (show acc ++ enc (jP p) = acc ++ [92, 116] by rw [c5]; congr 1)
    have b5 : (p == 9) = true := by rw [beq_iff_eq]; exact c5
    have b1 : (p == 34) = false := by rw [beq_eq_false_iff_ne]; exact c1
    have b2 : (p == 92) = false := by rw [beq_eq_false_iff_ne]; exact c2
    have b3 : (p == 10) = false := by rw [beq_eq_false_iff_ne]; exact c3
    have b4 : (p == 13) = false := by rw [beq_eq_false_iff_ne]; exact c4
    clear c1 c2 c3 c4 c5
    have hw := sbWrite B b _ ⟨#[92, 116]⟩ w hI (by rw [HBC.out]; show _ + 2 ≤ _; omega) hB
    rw [byteCells_str] at hw
    go_enter Tryd.func63, Tryd.ntmps63
    go_wp2_with fail
    refine hw.mono ?_
    clear hw
    rintro e w1 ⟨rfl, g1, g2, g3⟩
    go_wp2
    first | go_end0 | refine bodyPost_ret (results_none rfl _ _ _) rfl ?_
    exact ⟨rfl, by rw [HV.out]; exact g1, g2, g3⟩
  have HE := Lib.hid (jP_esc p c1 c2 c3 c4 c5)
  have b1 : (p == 34) = false := by rw [beq_eq_false_iff_ne]; exact c1
  have b2 : (p == 92) = false := by rw [beq_eq_false_iff_ne]; exact c2
  have b3 : (p == 10) = false := by rw [beq_eq_false_iff_ne]; exact c3
  have b4 : (p == 13) = false := by rw [beq_eq_false_iff_ne]; exact c4
  have b5 : (p == 9) = false := by rw [beq_eq_false_iff_ne]; exact c5
  clear c1 c2 c3 c4 c5
  by_cases d1 : p = 127
  · have HV := Lib.hid (show enc (jP p) = [92, 117] ++ hex4 p.toNat by rw [HE.out, if_pos (by simp [told]; omega)])
    have n1 : (p == 127) = true := by rw [beq_iff_eq]; exact d1
    have hu := writeUnit_any B b acc p w h0 (by omega) hI (by omega) hB
    clear d1
    go_enter Tryd.func63, Tryd.ntmps63
    go_wp2_with fail
    refine hu.mono ?_
    clear hu
    rintro e w1 ⟨rfl, g1, g2, g3⟩
    go_wp2
    first | go_end0 | refine bodyPost_ret (results_none rfl _ _ _) rfl ?_
    exact ⟨rfl, by rw [HV.out]; exact g1, g2, g3⟩
  by_cases d2 : p = 8232
  · have HV := Lib.hid (show enc (jP p) = [92, 117] ++ hex4 p.toNat by rw [HE.out, if_pos (by simp [told]; omega)])
    have n2 : (p == 8232) = true := by rw [beq_iff_eq]; exact d2
    have n1 : (p == 127) = false := by rw [beq_eq_false_iff_ne]; exact d1
    have hu := writeUnit_any B b acc p w h0 (by omega) hI (by omega) hB
    clear d1 d2
    go_enter Tryd.func63, Tryd.ntmps63
    go_wp2_with fail
    refine hu.mono ?_
    clear hu
    rintro e w1 ⟨rfl, g1, g2, g3⟩
    go_wp2
    first | go_end0 | refine bodyPost_ret (results_none rfl _ _ _) rfl ?_
    exact ⟨rfl, by rw [HV.out]; exact g1, g2, g3⟩
  by_cases d3 : p = 8233
  · have HV := Lib.hid (show enc (jP p) = [92, 117] ++ hex4 p.toNat by rw [HE.out, if_pos (by simp [told]; omega)])
    have n3 : (p == 8233) = true := by rw [beq_iff_eq]; exact d3
    have n1 : (p == 127) = false := by rw [beq_eq_false_iff_ne]; exact d1
    have n2 : (p == 8232) = false := by rw [beq_eq_false_iff_ne]; exact d2
    have hu := writeUnit_any B b acc p w h0 (by omega) hI (by omega) hB
    clear d1 d2 d3
    go_enter Tryd.func63, Tryd.ntmps63
    go_wp2_with fail
    refine hu.mono ?_
    clear hu
    rintro e w1 ⟨rfl, g1, g2, g3⟩
    go_wp2
    first | go_end0 | refine bodyPost_ret (results_none rfl _ _ _) rfl ?_
    exact ⟨rfl, by rw [HV.out]; exact g1, g2, g3⟩
  by_cases d4 : p = 60
  · have HV := Lib.hid (show enc (jP p) = [92, 117] ++ hex4 p.toNat by rw [HE.out, if_pos (by simp [told]; omega)])
    have n4 : (p == 60) = true := by rw [beq_iff_eq]; exact d4
    have n1 : (p == 127) = false := by rw [beq_eq_false_iff_ne]; exact d1
    have n2 : (p == 8232) = false := by rw [beq_eq_false_iff_ne]; exact d2
    have n3 : (p == 8233) = false := by rw [beq_eq_false_iff_ne]; exact d3
    have hu := writeUnit_any B b acc p w h0 (by omega) hI (by omega) hB
    clear d1 d2 d3 d4
    go_enter Tryd.func63, Tryd.ntmps63
    go_wp2_with fail
    refine hu.mono ?_
    clear hu
    rintro e w1 ⟨rfl, g1, g2, g3⟩
    go_wp2
    first | go_end0 | refine bodyPost_ret (results_none rfl _ _ _) rfl ?_
    exact ⟨rfl, by rw [HV.out]; exact g1, g2, g3⟩
  by_cases d5 : p = 62
  · have HV := Lib.hid (show enc (jP p) = [92, 117] ++ hex4 p.toNat by rw [HE.out, if_pos (by simp [told]; omega)])
    have n5 : (p == 62) = true := by rw [beq_iff_eq]; exact d5
    have n1 : (p == 127) = false := by rw [beq_eq_false_iff_ne]; exact d1
    have n2 : (p == 8232) = false := by rw [beq_eq_false_iff_ne]; exact d2
    have n3 : (p == 8233) = false := by rw [beq_eq_false_iff_ne]; exact d3
    have n4 : (p == 60) = false := by rw [beq_eq_false_iff_ne]; exact d4
    have hu := writeUnit_any B b acc p w h0 (by omega) hI (by omega) hB
    clear d1 d2 d3 d4 d5
    go_enter Tryd.func63, Tryd.ntmps63
    go_wp2_with fail
    refine hu.mono ?_
    clear hu
    rintro e w1 ⟨rfl, g1, g2, g3⟩
    go_wp2
    first | go_end0 | refine bodyPost_ret (results_none rfl _ _ _) rfl ?_
    exact ⟨rfl, by rw [HV.out]; exact g1, g2, g3⟩
  by_cases d6 : p = 38
  · have HV := Lib.hid (show enc (jP p) = [92, 117] ++ hex4 p.toNat by rw [HE.out, if_pos (by simp [told]; omega)])
    have n6 : (p == 38) = true := by rw [beq_iff_eq]; exact d6
    have n1 : (p == 127) = false := by rw [beq_eq_false_iff_ne]; exact d1
    have n2 : (p == 8232) = false := by rw [beq_eq_false_iff_ne]; exact d2
    have n3 : (p == 8233) = false := by rw [beq_eq_false_iff_ne]; exact d3
    have n4 : (p == 60) = false := by rw [beq_eq_false_iff_ne]; exact d4
    have n5 : (p == 62) = false := by rw [beq_eq_false_iff_ne]; exact d5
    have hu := writeUnit_any B b acc p w h0 (by omega) hI (by omega) hB
    clear d1 d2 d3 d4 d5 d6
    go_enter Tryd.func63, Tryd.ntmps63
    go_wp2_with fail
    refine hu.mono ?_
    clear hu
    rintro e w1 ⟨rfl, g1, g2, g3⟩
    go_wp2
    first | go_end0 | refine bodyPost_ret (results_none rfl _ _ _) rfl ?_
    exact ⟨rfl, by rw [HV.out]; exact g1, g2, g3⟩
  have hno : ((p == 127) = false) ∧ ((p == 8232) = false) ∧ ((p == 8233) = false) ∧ ((p == 60) = false) ∧ ((p == 62) = false) ∧ ((p == 38) = false) := by
    refine ⟨?_, ?_, ?_, ?_, ?_, ?_⟩ <;> (rw [beq_eq_false_iff_ne]; assumption)
  obtain ⟨n1, n2, n3, n4, n5, n6⟩ := hno
  by_cases hlo : p < 32
  · have HV := Lib.hid (show enc (jP p) = [92, 117] ++ hex4 p.toNat by rw [HE.out, if_pos (by simp [told]; omega)])
    have hu := writeUnit_any B b acc p w h0 (by omega) hI (by omega) hB
    clear d1 d2 d3 d4 d5 d6
    go_enter Tryd.func63, Tryd.ntmps63
    go_wp2_with fail
    refine hu.mono ?_
    clear hu
    rintro e w1 ⟨rfl, g1, g2, g3⟩
    go_wp2
    first | go_end0 | refine bodyPost_ret (results_none rfl _ _ _) rfl ?_
    exact ⟨rfl, by rw [HV.out]; exact g1, g2, g3⟩
  · have hge : 32 ≤ p := by omega
    have HV := Lib.hid (show enc (jP p) = encodeRune p by rw [HE.out, if_neg (by simp [told]; omega)])
    have hr := sbRune B b _ p (by omega) (by omega) w hI (by rw [HBC.out]; omega) hB
    rw [byteCells_rune] at hr
    clear hlo d1 d2 d3 d4 d5 d6
    go_enter Tryd.func63, Tryd.ntmps63
    go_wp2_with fail
    refine hr.mono ?_
    clear hr
    rintro e w1 ⟨rfl, g1, g2, g3⟩
    go_wp2
    first | go_end0 | refine bodyPost_ret (results_none rfl _ _ _) rfl ?_
    exact ⟨rfl, by rw [HV.out]; exact g1, g2, g3⟩
end Go.Proofs.YtchgelfomnbpaaaDoor
namespace Go.Proofs.YtchgelfomnbpaaaDoor
open Go.RowKit
open Go.Lib

theorem jsn_nil : jsn [] = [] := rfl
/-- A text in quotes. -/
def jsonL (l : List UInt8) : List UInt8 := 34 :: enc (jsn (pts l)) ++ [34]
set_option maxRecDepth 100000 in
set_option maxHeartbeats 4000000 in
theorem json_any (s : ByteArray) (w : World) (hs : s.size ≤ 2000000) : Calls Tryd.prog 45 #[.string s] w fun e w' => e = .returned (.string ⟨(jsonL s.data.toList).toArray⟩) ∧ Below w.heap.size w w' := by
  have hp := fun W => repair_any s W hs
  have hL := pts_length_le s.data.toList
  rw [← size_list] at hL
  have HP := Lib.hid (pts_allPt s.data.toList)
  unfold jsonL
  generalize pts s.data.toList = zs at *
  have hel := enc_length_le zs
  obtain ⟨t, ht⟩ : ∃ t : ByteArray, t = ⟨(enc zs).toArray⟩ := ⟨_, rfl⟩
  rw [← ht] at hp
  have HT := Lib.hid (show pts t.data.toList = zs by rw [ht]; exact pts_enc' zs HP.out)
  have hts : t.size ≤ 8000000 := by rw [size_list, ht]; simp; omega
  rw [← HT.out]
  clear ht hel hL HP HT
  have hb0 := sbByte w.heap.size w.heap.size (byteCells []) ((34 : UInt8).toNat : Int) (w.alloc (.cells #[.pointer none, .slice none 0 0] 61)) (Lib.IsBuilderF.of (Lib.fresh_isBuilder 61 5 w)) (by simp [byteCells]) (by simp)
  rw [byteCells_one] at hb0
  go_enter Tryd.func45, Tryd.ntmps45
  go_wp2_with fail
  refine hb0.mono ?_
  clear hb0
  rintro e w0 ⟨rfl, g1, g2, g3⟩
  have hz0 : w.heap.size + 1 ≤ w0.heap.size := by have := g2.size; simp at this; omega
  have B0 : Below w.heap.size w w0 := ((Below.refl _ w).alloc (Nat.le_refl _) _).trans g2
  clear g2 g3
  go_wp2_with fail
  refine (hp _).mono ?_
  clear hp
  rintro e w1 ⟨rfl, b1⟩
  have hz1 : w.heap.size + 1 ≤ w1.heap.size := by have := b1.size; omega
  have hI0 : Lib.IsBuilderF 61 5 w.heap.size w.heap.size (byteCells (34 :: enc [])) w1 := bf_below (Or.inr g1) b1
  have B1 : Below w.heap.size w w1 := B0.trans (b1.mono (by omega))
  clear b1 B0 g1
  go_wp2
  go_loopw [] (fun wr => ∃ (k : Nat) (acc : List Int), k ≤ t.size ∧ Lib.IsBuilderF 61 5 w.heap.size w.heap.size (byteCells (34 :: enc acc)) wr ∧ wr.heap[w1.heap.size]? = some (.stringIter t k) ∧ Below w.heap.size w wr ∧ acc.length ≤ 6 * k ∧ Hid (acc ++ jsn (ptsFrom t k) = jsn (pts t.data.toList)))
    (fun wr => t.size - wr.iterPos w1.heap.size)
  case atStart => exact ⟨0, [], Nat.zero_le _, hI0.alloc _, World.iter_heap w1 t 0, B1.alloc (by omega) _, by simp, by simp [Hid, ptsFrom]⟩
  case round =>
    obtain ⟨k, acc, hk, hI, hit, hbw, hal, hac⟩ := hrel
    have hbsz : w1.heap.size < wr.heap.size := (Array.getElem?_eq_some_iff.1 hit).1
    have hel := enc_length_le acc
    by_cases hlt : k < t.size
    · have hnx : ∀ ty, (Instr.next (.pointer (some ⟨w1.heap.size, 0, none⟩)) true ty).run Tryd.prog wr = _ := fun ty => Lib.run_next_any_at wr w1.heap.size t k ty hit hlt
      obtain ⟨hstep, hwd, hle, hru⟩ := ptsFrom_step t k hlt
      have hI2 := hI.iterAt hit (k + (Utf8.decode t k).2)
      have hit2 := Lib.iterAt_heap wr w1.heap.size t k (k + (Utf8.decode t k).2) hit
      have hbw2 := Lib.below_iterAt hbw (k := w1.heap.size) (by omega) t (k + (Utf8.decode t k).2)
      have hsz2 : w.heap.size ≤ (wr.iterAt w1.heap.size t (k + (Utf8.decode t k).2)).heap.size := by rw [Lib.iterAt_size]; omega
      have hm : t.size - (k + (Utf8.decode t k).2) < t.size - k := by omega
      have HIT0 := Lib.hid hit
      generalize Utf8.decode t k = d at *
      obtain ⟨p, n⟩ := d
      simp only at hwd hle hru hstep hnx hI2 hit2 hbw2 hsz2 hm
      generalize wr.iterAt w1.heap.size t (k + n) = wi at *
      have HIT := Lib.hid hit2
      clear hit2 hit hbw hI
      have H2 := Lib.hid (show (acc ++ jP (p : Int)) ++ jsn (ptsFrom t (k + n)) = jsn (pts t.data.toList) by rw [← hac.out, hstep, jsn_cons, List.append_assoc])
      clear hstep
      have hpl := jP_length (p : Int)
      have HC := Lib.hid (show (34 :: enc acc) ++ enc (jP (p : Int)) = 34 :: enc (acc ++ jP (p : Int)) by rw [enc_append]; rfl)
      have hq := writeInQuotes_any w.heap.size w.heap.size (34 :: enc acc) (p : Int) wi (by omega) (by omega) hI2 (by rw [List.length_cons]; omega) hsz2
      rw [HC.out] at hq
      go_wp2_with fail
      refine hq.mono ?_
      clear hq
      rintro e w2 ⟨rfl, j1, j2, j3⟩
      go_wp2
      go_roundw
      case rel => exact ⟨k + n, acc ++ jP (p : Int), hle, Or.inr j1, j3.iter HIT.out (by omega), hbw2.trans j2, by rw [List.length_append]; omega, H2⟩
      case measure => rw [iterPos_of (j3.iter HIT.out (by omega)), iterPos_of HIT0.out]; exact hm
    · have hnx : ∀ ty, (Instr.next (.pointer (some ⟨w1.heap.size, 0, none⟩)) true ty).run Tryd.prog wr = _ := fun ty => Lib.run_next_end_at wr w1.heap.size t k ty hit hlt
      have HE := Lib.hid (ptsFrom_end t k hlt)
      clear hit
      have hr := sbByte w.heap.size w.heap.size (byteCells (34 :: enc acc)) ((34 : UInt8).toNat : Int) wr hI (by rw [Lib.byteCells_length, List.length_cons]; omega) (by omega)
      rw [byteCells_one] at hr
      go_wp2_with fail
      refine hr.mono ?_
      clear hr
      rintro e w2 ⟨rfl, j1, j2, j3⟩
      have hz2 := j2.size
      go_wp2_with fail
      refine (sbString w.heap.size w.heap.size (34 :: enc acc ++ [34]) _ (Or.inr j1) (by omega)).mono ?_
      rintro e w3 ⟨rfl, _, b3, _⟩
      go_wp2
      go_ret
      have hq := hac.out
      rw [HE.out, jsn_nil, List.append_nil] at hq
      rw [← hq]
      exact ⟨rfl, (hbw.trans j2).trans b3⟩

def digU : ByteArray := ⟨#[48, 49, 50, 51, 52, 53, 54, 55, 56, 57, 65, 66, 67, 68, 69, 70]⟩
theorem digU_size : digU.size = 16 := rfl
theorem digU_at : ∀ (d : Nat) (h : d < digU.size), digU[d] = hU d := by
  intro d h
  rw [digU_size] at h
  match d, h with
  | 0, _ => rfl
  | 1, _ => rfl
  | 2, _ => rfl
  | 3, _ => rfl
  | 4, _ => rfl
  | 5, _ => rfl
  | 6, _ => rfl
  | 7, _ => rfl
  | 8, _ => rfl
  | 9, _ => rfl
  | 10, _ => rfl
  | 11, _ => rfl
  | 12, _ => rfl
  | 13, _ => rfl
  | 14, _ => rfl
  | 15, _ => rfl
  | d + 16, h => exact absurd h (by omega)
theorem digU_run (k : IntKind) (W : World) (x : Int) (d : Nat) (hx0 : x = d) (hd : d < 16) : (Instr.index 9 (.string ⟨#[48, 49, 50, 51, 52, 53, 54, 55, 56, 57, 65, 66, 67, 68, 69, 70]⟩) (.int k x)).run Tryd.prog W = .ok (.int .u8 (hU d).toNat) W := by
  subst hx0
  have h := run_index_string (P := Tryd.prog) W 9 digU k (d : Int) Tryd.underlying9
  rw [dif_pos ⟨by omega, by rw [digU_size]; omega⟩] at h
  have e : digU[((d : Int)).toNat]'(by rw [digU_size]; omega) = hU d := digU_at d (by rw [digU_size]; exact hd)
  rw [e] at h
  exact h
end Go.Proofs.YtchgelfomnbpaaaDoor
