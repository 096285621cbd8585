/-
  The walks of package link's root and Print. Conditions: parts of at most a million bytes, a port that fits; the library's variables hold what they are laid with.
-/
import Derived.Test.YtlgggibdgfdmhaaGreatDoorKL
namespace Go.Proofs.YtlgggibdgfdmhaaGreatDoor
open Go.RowKit
open Go.Lib

theorem bs_cat (a b : List UInt8) : bs a ++ bs b = bs (a ++ b) := by
  unfold bs; exact ba_cat a b
theorem bs_lit3 : (⟨#[58, 47, 47]⟩ : ByteArray) = bs [58, 47, 47] := rfl
theorem bs_lit1 (c : UInt8) : (⟨#[c]⟩ : ByteArray) = bs [c] := rfl
/-- A link's parts are not too long. -/
structure Fits (p : Lk) : Prop where
  sch : p.scheme.length ≤ 100000
  host : p.host.length ≤ 100000
  port : p.port ≤ 65535
  path : p.path.length ≤ 100000
  query : p.query.length ≤ 100000
  frag : p.frag.length ≤ 100000
theorem dec_length (n : Nat) (h : n ≤ 65535) : (decDigits n).length ≤ 5 := by
  rw [decDigits]; split
  · simp
  rw [decDigits]; split
  · simp
  rw [decDigits]; split
  · simp
  rw [decDigits]; split
  · simp
  rw [decDigits]; split
  · simp
  · omega
theorem root_length (p : Lk) (h : Fits p) : (rootL p).length ≤ 200009 := by
  have h1 := h.sch; have h2 := h.host; have h3 := dec_length p.port h.port
  unfold rootL portL
  split <;> simp <;> omega
set_option maxRecDepth 100000 in
set_option maxHeartbeats 1000000 in
theorem root_any (p : Lk) (w : World) (hE : Env w) (hf : Fits p) : Calls Tryz.prog 29 #[lkV p] w fun e w' => e = .returned (.string (bs (rootL p))) ∧ Below w.heap.size w w' := by
  have hL : LB w.heap.size (bs p.scheme) (bs p.host) p.port (bs p.path) (bs p.query) (bs p.frag) p.hasQ p.hasF (w.alloc (.cells #[.string (bs p.scheme), .string (bs p.host), .int .i64 p.port, .string (bs p.path), .string (bs p.query), .string (bs p.frag), .bool p.hasQ, .bool p.hasF] 24)) := Blk.new _ w
  have B0 : Below w.heap.size w (w.alloc (.cells #[.string (bs p.scheme), .string (bs p.host), .int .i64 p.port, .string (bs p.path), .string (bs p.query), .string (bs p.frag), .bool p.hasQ, .bool p.hasF] 24)) := (Below.refl _ _).alloc (Nat.le_refl _) _
  have z1 : (bs p.scheme).size ≤ 100000 := by rw [bs_size]; exact hf.sch
  have z2 : (bs p.host).size ≤ 100000 := by rw [bs_size]; exact hf.host
  have hp1 := hf.port
  have HRT := Lib.hid (show rootL p = p.scheme ++ [58, 47, 47] ++ p.host ++ portL p.port from rfl)
  have HPL := Lib.hid (show portL p.port = if p.port = 0 then [] else 58 :: decDigits p.port from rfl)
  have hdl := dec_length p.port hp1
  have c0 := hL.c0
  have c1 := hL.c1
  have c2 := hL.c2
  unfold lkV aggV
  generalize rootL p = R at *
  by_cases h0 : p.port = 0
  · have HV := Lib.hid (show bs p.scheme ++ ⟨#[58, 47, 47]⟩ ++ bs p.host = bs R by rw [bs_lit3, bs_cat, bs_cat, HRT.out, HPL.out, if_pos h0, List.append_nil])
    have e1 : ((p.port : Int) != 0) = false := by rw [h0]; rfl
    clear h0
    generalize p.port = n at *
    generalize bs p.scheme = s1 at *
    generalize bs p.host = s2 at *
    generalize bs p.path = s3 at *
    generalize bs p.query = s4 at *
    generalize bs p.frag = s5 at *
    clear c0 c1 c2 hL
    go_enter Tryz.func29, Tryz.ntmps29
    go_wp2
    go_ret
    exact ⟨ret_str HV.out, B0⟩
  · have HV := Lib.hid (show bs p.scheme ++ ⟨#[58, 47, 47]⟩ ++ bs p.host ++ (⟨#[58]⟩ ++ bs (decDigits p.port)) = bs R by rw [bs_lit3, bs_lit1, bs_cat, bs_cat, bs_cat, bs_cat, HRT.out, HPL.out, if_neg h0]; rfl)
    have e1 : ((p.port : Int) != 0) = true := by simpa using h0
    have hi := itoa_any p.port (w.alloc (.cells #[.string (bs p.scheme), .string (bs p.host), .int .i64 p.port, .string (bs p.path), .string (bs p.query), .string (bs p.frag), .bool p.hasQ, .bool p.hasF] 24)) (hE.below B0) hp1
    have z3 : (bs (decDigits p.port)).size ≤ 5 := by rw [bs_size]; exact hdl
    clear h0
    generalize bs (decDigits p.port) = D at *
    generalize p.port = n at *
    generalize bs p.scheme = s1 at *
    generalize bs p.host = s2 at *
    generalize bs p.path = s3 at *
    generalize bs p.query = s4 at *
    generalize bs p.frag = s5 at *
    clear c0 c1 c2 hL
    go_enter Tryz.func29, Tryz.ntmps29
    go_wp2_with fail
    refine hi.mono ?_
    clear hi
    rintro e w1 ⟨rfl, b1⟩
    have B1 := B0.trans (b1.mono B0.size)
    go_wp2
    go_ret
    exact ⟨ret_str HV.out, B1⟩
theorem strCells_byte (s : ByteArray) : Lib.strCells s = byteCells s.data.toList := rfl
/-- One text more in a builder. -/
theorem more_text {B b : Nat} (l : List UInt8) (s : ByteArray) (w : World) (h : Lib.IsBuilderF 45 5 B b (byteCells l) w) (hl : l.length ≤ 10000000) (hs : s.size ≤ 10000000) (hBw : B ≤ w.heap.size) :
    Calls Tryz.prog 28 #[.pointer (some ⟨b, 0, none⟩), .string s] w fun e w' => e = .returned (.tuple #[.int .i64 s.size, .nilIface]) ∧ Lib.IsBuilderF 45 5 B b (byteCells (l ++ s.data.toList)) w' ∧ Below B w w' :=
  (sbText B b (byteCells l) s w h (by rw [byteCells_length]; omega) hBw).mono fun _ _ ⟨h1, h2, h3, _⟩ => ⟨h1, by rw [byteCells_append]; exact .inr h2, h3⟩
theorem LB.belowB {b : Nat} {a h : ByteArray} {n : Int} {p q f : ByteArray} {x y : Bool} {w w' : World} {B : Nat} (H : LB b a h n p q f x y w) (hb : Below B w w') (hB : b < B) : LB b a h n p q f x y w' := (hb.block b hB).trans H
set_option maxRecDepth 100000 in
set_option maxHeartbeats 2000000 in
theorem print_any (p : Lk) (w : World) (hE : Env w) (hf : Fits p) : Calls Tryz.prog 13 #[lkV p] w fun e w' => e = .returned (.string (bs (printL p))) ∧ Below w.heap.size w w' := by
  have hL0 : LB w.heap.size (bs p.scheme) (bs p.host) p.port (bs p.path) (bs p.query) (bs p.frag) p.hasQ p.hasF (w.alloc (.cells #[.string (bs p.scheme), .string (bs p.host), .int .i64 p.port, .string (bs p.path), .string (bs p.query), .string (bs p.frag), .bool p.hasQ, .bool p.hasF] 24)) := Blk.new _ w
  have hL := hL0.alloc (.cells #[.pointer none, .slice none 0 0] 45)
  have B0 : Below w.heap.size w ((w.alloc (.cells #[.string (bs p.scheme), .string (bs p.host), .int .i64 p.port, .string (bs p.path), .string (bs p.query), .string (bs p.frag), .bool p.hasQ, .bool p.hasF] 24)).alloc (.cells #[.pointer none, .slice none 0 0] 45)) := ((Below.refl _ _).alloc (Nat.le_refl _) _).alloc (by simp) _
  have hI0 := Lib.IsBuilderF.of (Lib.fresh_isBuilder 45 5 (w.alloc (.cells #[.string (bs p.scheme), .string (bs p.host), .int .i64 p.port, .string (bs p.path), .string (bs p.query), .string (bs p.frag), .bool p.hasQ, .bool p.hasF] 24)))
  rw [show (w.alloc (.cells #[.string (bs p.scheme), .string (bs p.host), .int .i64 p.port, .string (bs p.path), .string (bs p.query), .string (bs p.frag), .bool p.hasQ, .bool p.hasF] 24)).heap.size = w.heap.size + 1 by simp] at hI0
  have hrt := root_any p ((w.alloc (.cells #[.string (bs p.scheme), .string (bs p.host), .int .i64 p.port, .string (bs p.path), .string (bs p.query), .string (bs p.frag), .bool p.hasQ, .bool p.hasF] 24)).alloc (.cells #[.pointer none, .slice none 0 0] 45)) (hE.below B0) hf
  have hrl := root_length p hf
  have z3 : (bs p.path).size ≤ 100000 := by rw [bs_size]; exact hf.path
  have z4 : (bs p.query).size ≤ 100000 := by rw [bs_size]; exact hf.query
  have z5 : (bs p.frag).size ≤ 100000 := by rw [bs_size]; exact hf.frag
  have HPR := Lib.hid (show printL p = rootL p ++ (p.path ++ markL p.hasQ 63 p.query ++ markL p.hasF 35 p.frag) from rfl)
  have zR : (bs (rootL p)).size ≤ 200009 := by rw [bs_size]; exact hrl
  unfold lkV aggV at hrt ⊢
  have w00 : ((w.alloc (.cells #[.string (bs p.scheme), .string (bs p.host), .int .i64 p.port, .string (bs p.path), .string (bs p.query), .string (bs p.frag), .bool p.hasQ, .bool p.hasF] 24)).alloc (.cells #[.pointer none, .slice none 0 0] 45)).heap.size = w.heap.size + 2 := by simp
  have W00 := Lib.hid w00
  clear w00 hL0
  go_enter Tryz.func13, Tryz.ntmps13
  go_wp2_with (guard_target =~ Go.wpList _ _ _ ({ dst := _, op := Go.Op.load 24 _, type := _, pos := _, after := _, guard := none } :: _) _ _; refine ld24 rfl hL ?_)
  refine hrt.mono ?_
  clear hrt
  rintro e w1 ⟨rfl, b1⟩
  have hL1 := hL.below b1
  have hI1 : Lib.IsBuilderF 45 5 (w.heap.size + 1) (w.heap.size + 1) (byteCells []) w1 := bf_below hI0 b1
  have B1 : Below w.heap.size w w1 := B0.trans (b1.mono (by rw [W00.out]; omega))
  have hz1 : w.heap.size + 2 ≤ w1.heap.size := by have := b1.size; rw [W00.out] at this; exact this
  clear hL hI0 B0 b1 W00
  go_wp2_with fail
  refine (more_text [] (bs (rootL p)) w1 hI1 (by simp) (by omega) (by omega)).mono ?_
  rintro e w2 ⟨rfl, hI2, b2⟩
  have hL2 := hL1.belowB b2 (by omega)
  have B2 : Below w.heap.size w w2 := B1.trans (b2.mono (by omega))
  have hz2 : w.heap.size + 2 ≤ w2.heap.size := by have := b2.size; omega
  rw [List.nil_append, bs_list] at hI2
  have c3 := hL2.c3
  clear hL1 hI1 B1 b2 hz1
  go_wp2_with fail
  refine (more_text (rootL p) (bs p.path) w2 hI2 (by omega) (by omega) (by omega)).mono ?_
  rintro e w3 ⟨rfl, hI3, b3⟩
  have hL3 := hL2.belowB b3 (by omega)
  have B3 : Below w.heap.size w w3 := B2.trans (b3.mono (by omega))
  have hz3 : w.heap.size + 2 ≤ w3.heap.size := by have := b3.size; omega
  rw [bs_list] at hI3
  have c4 := hL3.c4
  have c6 := hL3.c6
  have c7 := hL3.c7
  have c5 := hL3.c5
  have hql : p.query.length ≤ 100000 := hf.query
  have hpl : p.path.length ≤ 100000 := hf.path
  have hfl : p.frag.length ≤ 100000 := hf.frag
  clear hL2 hI2 B2 b3 hz2 c3
  cases hq : p.hasQ with
  | false =>
    rw [hq] at c6
    cases hfr : p.hasF with
    | false =>
      rw [hfr] at c7
      have HV := Lib.hid (show rootL p ++ p.path = printL p by rw [HPR.out, hq, hfr]; simp [markL])
      rw [HV.out] at hI3
      clear hq hfr
      go_wp2_with fail
      refine (sbString (w.heap.size + 1) (w.heap.size + 1) (printL p) w3 hI3 (by omega)).mono ?_
      rintro e w4 ⟨rfl, _, b4, _⟩
      have B4 : Below w.heap.size w w4 := B3.trans (b4.mono (by omega))
      go_wp2
      go_ret
      exact ⟨rfl, B4⟩
    | true =>
      rw [hfr] at c7
      have HV := Lib.hid (show rootL p ++ p.path ++ (35 :: p.frag) = printL p by rw [HPR.out, hq, hfr]; simp [markL])
      have HW := Lib.hid (show (⟨#[35]⟩ ++ bs p.frag : ByteArray).data.toList = 35 :: p.frag by rw [bs_lit1, bs_cat]; rfl)
      have hs5 : (⟨#[35]⟩ ++ bs p.frag : ByteArray).size ≤ 100001 := by rw [bs_lit1, bs_cat, bs_size]; simp; omega
      clear hq hfr
      go_wp2_with fail
      refine (more_text (rootL p ++ p.path) _ w3 hI3 (by simp; omega) (by omega) (by omega)).mono ?_
      rintro e w4 ⟨rfl, hI4, b4⟩
      have B4 : Below w.heap.size w w4 := B3.trans (b4.mono (by omega))
      have hz4 : w.heap.size + 2 ≤ w4.heap.size := by have := b4.size; omega
      rw [HW.out, HV.out] at hI4
      clear hL3 hI3 B3 b4 hz3 c4 c5 c6 c7
      go_wp2_with fail
      refine (sbString (w.heap.size + 1) (w.heap.size + 1) (printL p) w4 hI4 (by omega)).mono ?_
      rintro e w5 ⟨rfl, _, b5, _⟩
      have B5 : Below w.heap.size w w5 := B4.trans (b5.mono (by omega))
      go_wp2
      go_ret
      exact ⟨rfl, B5⟩
  | true =>
    rw [hq] at c6
    have HW4 := Lib.hid (show (⟨#[63]⟩ ++ bs p.query : ByteArray).data.toList = 63 :: p.query by rw [bs_lit1, bs_cat]; rfl)
    have hs4 : (⟨#[63]⟩ ++ bs p.query : ByteArray).size ≤ 100001 := by rw [bs_lit1, bs_cat, bs_size]; simp; omega
    go_wp2_with fail
    refine (more_text (rootL p ++ p.path) _ w3 hI3 (by simp; omega) (by omega) (by omega)).mono ?_
    rintro e w4 ⟨rfl, hI4, b4⟩
    have hL4 := hL3.belowB b4 (by omega)
    have B4 : Below w.heap.size w w4 := B3.trans (b4.mono (by omega))
    have hz4 : w.heap.size + 2 ≤ w4.heap.size := by have := b4.size; omega
    rw [HW4.out] at hI4
    clear hL3 hI3 B3 b4 hz3 c4 c5 c6 c7
    have c5 := hL4.c5
    have c7 := hL4.c7
    cases hfr : p.hasF with
    | false =>
      rw [hfr] at c7
      have HV := Lib.hid (show rootL p ++ p.path ++ (63 :: p.query) = printL p by rw [HPR.out, hq, hfr]; simp [markL])
      rw [HV.out] at hI4
      clear hq hfr
      go_wp2_with fail
      refine (sbString (w.heap.size + 1) (w.heap.size + 1) (printL p) w4 hI4 (by omega)).mono ?_
      rintro e w5 ⟨rfl, _, b5, _⟩
      have B5 : Below w.heap.size w w5 := B4.trans (b5.mono (by omega))
      go_wp2
      go_ret
      exact ⟨rfl, B5⟩
    | true =>
      rw [hfr] at c7
      have HV := Lib.hid (show rootL p ++ p.path ++ (63 :: p.query) ++ (35 :: p.frag) = printL p by rw [HPR.out, hq, hfr]; simp [markL])
      have HW := Lib.hid (show (⟨#[35]⟩ ++ bs p.frag : ByteArray).data.toList = 35 :: p.frag by rw [bs_lit1, bs_cat]; rfl)
      have hs5 : (⟨#[35]⟩ ++ bs p.frag : ByteArray).size ≤ 100001 := by rw [bs_lit1, bs_cat, bs_size]; simp; omega
      clear hq hfr
      go_wp2_with fail
      refine (more_text (rootL p ++ p.path ++ 63 :: p.query) _ w4 hI4 (by simp; omega) (by omega) (by omega)).mono ?_
      rintro e w5 ⟨rfl, hI5, b5⟩
      have B5 : Below w.heap.size w w5 := B4.trans (b5.mono (by omega))
      have hz5 : w.heap.size + 2 ≤ w5.heap.size := by have := b5.size; omega
      rw [HW.out, HV.out] at hI5
      clear hL4 hI4 B4 b5 hz4 c5 c7
      go_wp2_with fail
      refine (sbString (w.heap.size + 1) (w.heap.size + 1) (printL p) w5 hI5 (by omega)).mono ?_
      rintro e w6 ⟨rfl, _, b6, _⟩
      have B6 : Below w.heap.size w w6 := B5.trans (b6.mono (by omega))
      go_wp2
      go_ret
      exact ⟨rfl, B6⟩
end Go.Proofs.YtlgggibdgfdmhaaGreatDoor
