/-
  The walk of the document's Reference of layer 2. Conditions: texts of at most a million bytes, beginning with an ampersand.
-/
import Derived.Test.YtoddghppbfehpaaDoorFA
namespace Go.Proofs.YtoddghppbfehpaaDoor
open Go.RowKit
open Go.Lib

/-- What the document's Reference answers. -/
def RQ (q : Int × Nat) (w : World) (e : Ending) (w' : World) : Prop := e = .returned (.tuple #[.int .i64 q.1, .int .i64 q.2]) ∧ Below w.heap.size w w'
theorem RQ.mk {q : Int × Nat} {p : Int} {n : Nat} {w w' : World} (h : q = (p, n)) (hb : Below w.heap.size w w') : RQ q w (.returned (.tuple #[.int .i64 p, .int .i64 n])) w' := by subst h; exact ⟨rfl, hb⟩
theorem RQ.mkI {q : Int × Nat} {p x : Int} {n : Nat} {w w' : World} (h : q = (p, n)) (hx : x = n) (hb : Below w.heap.size w w') : RQ q w (.returned (.tuple #[.int .i64 p, .int .i64 x])) w' := by subst h; subst hx; exact ⟨rfl, hb⟩
theorem RQ.mkP {q : Int × Nat} {p x : Int} {n : Nat} {w w' : World} (h : q = (p, n)) (hx : x = p) (hb : Below w.heap.size w w') : RQ q w (.returned (.tuple #[.int .i64 x, .int .i64 n])) w' := by subst h; subst hx; exact ⟨rfl, hb⟩
theorem valD_len (base : Int) (m : Nat) (l : List UInt8) (h0 : 0 ≤ base) (h1 : base ≤ 16) (hm : m ≤ 7) : 0 ≤ valD base (digs base m l) ∧ valD base (digs base m l) ≤ 268435455 :=
  valD_bd base h0 h1 _ (by have := (digs_length base m l).1; omega) (List.all_eq_true.2 (digs_all base m l))
theorem fin_bad (r : List UInt8) (a k : Nat) (p : Int) (h : k = 0 ∨ r[a + k]? ≠ some 59 ∨ p = 0 ∨ isPt p = false) : fin r a k p = (-1, 0) := by
  unfold fin
  rw [if_neg]
  rintro ⟨h1, h2, h3, h4⟩
  rcases h with h | h | h | h
  · exact h1 h
  · exact h h2
  · exact h3 h
  · rw [h] at h4; cases h4
theorem fin_good (r : List UInt8) (a k : Nat) (p : Int) (h1 : k ≠ 0) (h2 : r[a + k]? = some 59) (h3 : p ≠ 0) (h4 : isPt p = true) : fin r a k p = (p, a + k + 2) := by
  unfold fin; rw [if_pos ⟨h1, h2, h3, h4⟩]
theorem pre38 (x r : List UInt8) : (38 :: x).isPrefixOf (38 :: r) = x.isPrefixOf r := by simp [List.isPrefixOf]
theorem starts_at (s : ByteArray) (r : List UInt8) (hr : s.data.toList = 38 :: r) (x : List UInt8) (b : Bool) (hb : x.isPrefixOf r = b) (w : World) : Calls Tryd.prog 49 #[.string s, .string ⟨(38 :: x).toArray⟩] w fun e w' => e = .returned (.bool b) ∧ w = w' := by
  have h := starts_any s ⟨(38 :: x).toArray⟩ w
  rw [show (⟨(38 :: x).toArray⟩ : ByteArray).data.toList = 38 :: x from rfl, hr, pre38, hb] at h
  exact h
def refBy (r : List UInt8) (q1 q2 q3 q4 q5 q6 q7 q8 : Bool) : Int × Nat :=
  if q1 = true then (38, 5) else if q2 = true then (60, 4) else if q3 = true then (62, 4) else if q4 = true then (34, 6) else if q5 = true then (39, 6)
  else if q6 = true ∨ q7 = true then fin r 2 (digs 16 6 (r.drop 2)).length (valD 16 (digs 16 6 (r.drop 2)))
  else if q8 = true then fin r 1 (digs 10 7 (r.drop 1)).length (valD 10 (digs 10 7 (r.drop 1))) else (-1, 0)
theorem refQ_by (r : List UInt8) : refQ r = refBy r ([97, 109, 112, 59].isPrefixOf r) ([108, 116, 59].isPrefixOf r) ([103, 116, 59].isPrefixOf r) ([113, 117, 111, 116, 59].isPrefixOf r) ([97, 112, 111, 115, 59].isPrefixOf r) ([35, 120].isPrefixOf r) ([35, 88].isPrefixOf r) ([35].isPrefixOf r) := rfl
theorem pre_len {x r : List UInt8} (h : x.isPrefixOf r = true) : x.length ≤ r.length := (List.isPrefixOf_iff_prefix.1 h).length_le
set_option maxRecDepth 100000 in
set_option maxHeartbeats 8000000 in
theorem rref_any (s : ByteArray) (r : List UInt8) (w : World) (hs : s.size ≤ 1000000) (hr : s.data.toList = 38 :: r) : Calls Tryd.prog 30 #[.string s] w (RQ (refQ r) w) := by
  have hq := refQ_by r
  have HR := Lib.hid hr
  have hsz : s.size = r.length + 1 := by rw [size_list, hr]; rfl
  have hlen : r.length + 1 ≤ s.size := by omega
  have hlen2 : s.size ≤ r.length + 1 := by omega
  clear hsz hr
  obtain ⟨q1, e1⟩ : ∃ b, ([97, 109, 112, 59] : List UInt8).isPrefixOf r = b := ⟨_, rfl⟩
  have t1 := fun W => starts_at s r HR.out [97, 109, 112, 59] q1 e1 W
  obtain ⟨q2, e2⟩ : ∃ b, ([108, 116, 59] : List UInt8).isPrefixOf r = b := ⟨_, rfl⟩
  have t2 := fun W => starts_at s r HR.out [108, 116, 59] q2 e2 W
  obtain ⟨q3, e3⟩ : ∃ b, ([103, 116, 59] : List UInt8).isPrefixOf r = b := ⟨_, rfl⟩
  have t3 := fun W => starts_at s r HR.out [103, 116, 59] q3 e3 W
  obtain ⟨q4, e4⟩ : ∃ b, ([113, 117, 111, 116, 59] : List UInt8).isPrefixOf r = b := ⟨_, rfl⟩
  have t4 := fun W => starts_at s r HR.out [113, 117, 111, 116, 59] q4 e4 W
  obtain ⟨q5, e5⟩ : ∃ b, ([97, 112, 111, 115, 59] : List UInt8).isPrefixOf r = b := ⟨_, rfl⟩
  have t5 := fun W => starts_at s r HR.out [97, 112, 111, 115, 59] q5 e5 W
  obtain ⟨q6, e6⟩ : ∃ b, ([35, 120] : List UInt8).isPrefixOf r = b := ⟨_, rfl⟩
  have t6 := fun W => starts_at s r HR.out [35, 120] q6 e6 W
  obtain ⟨q7, e7⟩ : ∃ b, ([35, 88] : List UInt8).isPrefixOf r = b := ⟨_, rfl⟩
  have t7 := fun W => starts_at s r HR.out [35, 88] q7 e7 W
  obtain ⟨q8, e8⟩ : ∃ b, ([35] : List UInt8).isPrefixOf r = b := ⟨_, rfl⟩
  have t8 := fun W => starts_at s r HR.out [35] q8 e8 W
  rw [e1, e2, e3, e4, e5, e6, e7, e8] at hq
  have l6 : q6 = true → 2 ≤ r.length := fun h => pre_len (x := [35, 120]) (e6.trans h)
  have l7 : q7 = true → 2 ≤ r.length := fun h => pre_len (x := [35, 88]) (e7.trans h)
  have l8 : q8 = true → 1 ≤ r.length := fun h => pre_len (x := [35]) (e8.trans h)
  have L6 := Lib.hid l6
  have L7 := Lib.hid l7
  have L8 := Lib.hid l8
  clear l6 l7 l8 e1 e2 e3 e4 e5 e6 e7 e8
  generalize refQ r = q0 at *
  have HQ := Lib.hid hq
  clear hq
  go_enter Tryd.func30, Tryd.ntmps30
  go_wp2
  go_loop [13] (fun i => ∃ x : Int, i = .int .i64 x ∧ (x = 0 ∨ x = 1 ∧ q1 = false ∨ x = 2 ∧ q1 = false ∧ q2 = false ∨ x = 3 ∧ q1 = false ∧ q2 = false ∧ q3 = false ∨ x = 4 ∧ q1 = false ∧ q2 = false ∧ q3 = false ∧ q4 = false ∨ x = 5 ∧ q1 = false ∧ q2 = false ∧ q3 = false ∧ q4 = false ∧ q5 = false)) (fun i => (5 - RowKit.intOf i).toNat)
  case atStart => exact ⟨0, rfl, .inl rfl⟩
  case round =>
    obtain ⟨x, rfl, hx⟩ := hrel
    have B1 : Below w.heap.size w (w.alloc (.cells #[.string ⟨#[38, 97, 109, 112, 59]⟩, .string ⟨#[38, 108, 116, 59]⟩, .string ⟨#[38, 103, 116, 59]⟩, .string ⟨#[38, 113, 117, 111, 116, 59]⟩, .string ⟨#[38, 97, 112, 111, 115, 59]⟩] 9)) := (Below.refl _ w).alloc (Nat.le_refl _) _
    rcases hx with rfl | ⟨rfl, rfl⟩ | ⟨rfl, rfl, rfl⟩ | ⟨rfl, rfl, rfl, rfl⟩ | ⟨rfl, rfl, rfl, rfl, rfl⟩ | ⟨rfl, rfl, rfl, rfl, rfl, rfl⟩
    · cases q1 with
      | true =>
        go_wp2_with fail
        refine (t1 _).mono ?_
        rintro e w' ⟨rfl, rfl⟩
        go_wp2
        go_ret2
        exact RQ.mkP (p := 38) (n := 5) (by rw [HQ.out]; rfl) (by decide +kernel) B1
      | false =>
        go_wp2_with fail
        refine (t1 _).mono ?_
        rintro e w' ⟨rfl, rfl⟩
        go_wp2
        go_round
        case rel => exact ⟨1, rfl, by simp⟩
        case measure => simp [RowKit.intOf]
    · cases q2 with
      | true =>
        go_wp2_with fail
        refine (t2 _).mono ?_
        rintro e w' ⟨rfl, rfl⟩
        go_wp2
        go_ret2
        exact RQ.mkP (p := 60) (n := 4) (by rw [HQ.out]; rfl) (by decide +kernel) B1
      | false =>
        go_wp2_with fail
        refine (t2 _).mono ?_
        rintro e w' ⟨rfl, rfl⟩
        go_wp2
        go_round
        case rel => exact ⟨2, rfl, by simp⟩
        case measure => simp [RowKit.intOf]
    · cases q3 with
      | true =>
        go_wp2_with fail
        refine (t3 _).mono ?_
        rintro e w' ⟨rfl, rfl⟩
        go_wp2
        go_ret2
        exact RQ.mkP (p := 62) (n := 4) (by rw [HQ.out]; rfl) (by decide +kernel) B1
      | false =>
        go_wp2_with fail
        refine (t3 _).mono ?_
        rintro e w' ⟨rfl, rfl⟩
        go_wp2
        go_round
        case rel => exact ⟨3, rfl, by simp⟩
        case measure => simp [RowKit.intOf]
    · cases q4 with
      | true =>
        go_wp2_with fail
        refine (t4 _).mono ?_
        rintro e w' ⟨rfl, rfl⟩
        go_wp2
        go_ret2
        exact RQ.mkP (p := 34) (n := 6) (by rw [HQ.out]; rfl) (by decide +kernel) B1
      | false =>
        go_wp2_with fail
        refine (t4 _).mono ?_
        rintro e w' ⟨rfl, rfl⟩
        go_wp2
        go_round
        case rel => exact ⟨4, rfl, by simp⟩
        case measure => simp [RowKit.intOf]
    · cases q5 with
      | true =>
        go_wp2_with fail
        refine (t5 _).mono ?_
        rintro e w' ⟨rfl, rfl⟩
        go_wp2
        go_ret2
        exact RQ.mkP (p := 39) (n := 6) (by rw [HQ.out]; rfl) (by decide +kernel) B1
      | false =>
        go_wp2_with fail
        refine (t5 _).mono ?_
        rintro e w' ⟨rfl, rfl⟩
        go_wp2
        go_round
        case rel => exact ⟨5, rfl, by simp⟩
        case measure => simp [RowKit.intOf]
    · cases q6 with
      | true =>
        have hl := L6.out rfl
        have hn := fun W => rnumber16_any (s.extract 3 s.size) 6 W (by simp; omega) (by omega)
        unfold NumOut at hn
        rw [drop_extract, HR.out, List.drop_succ_cons] at hn
        have hv := valD_len 16 6 (r.drop 2) (by omega) (by omega) (by omega)
        have hk := digs_length 16 6 (r.drop 2)
        rw [List.length_drop] at hk
        have HF := Lib.hid (show q0 = fin r 2 (digs 16 6 (r.drop 2)).length (valD 16 (digs 16 6 (r.drop 2))) by rw [HQ.out]; rfl)
        generalize valD 16 (digs 16 6 (r.drop 2)) = p at *
        generalize (digs 16 6 (r.drop 2)).length = n at *
        obtain ⟨v0, v1⟩ := hv
        obtain ⟨k1, k2⟩ := hk
        by_cases c1 : n = 0
        · have HB := Lib.hid (HF.out.trans (fin_bad r 2 n p (.inl c1)))
          have b1 : ((n : Int) == 0) = true := by rw [beq_iff_eq]; omega
          clear c1
          go_wp2_with fail
          refine (t6 _).mono ?_
          rintro e w' ⟨rfl, rfl⟩
          go_wp2_with fail
          refine (hn _).mono ?_
          rintro e w' ⟨rfl, rfl⟩
          go_wp2
          go_ret2
          exact RQ.mk HB.out B1
        have b1 : ((n : Int) == 0) = false := by rw [beq_eq_false_iff_ne]; omega
        obtain ⟨m, hm⟩ : ∃ m : Nat, m = 3 + n := ⟨_, rfl⟩
        have hix : (3 : Int) + (n : Int) = (m : Int) := by omega
        have HM := Lib.hid hm
        have m1 : 3 + n ≤ m := by omega
        have m2 : m ≤ 3 + n := by omega
        have HG := Lib.hid (show r[2 + n]? = s.data.toList[m]? by rw [HR.out, hm, show 3 + n = (2 + n) + 1 by omega, List.getElem?_cons_succ])
        clear hm
        by_cases c2 : s.size ≤ m
        · have HB := Lib.hid (HF.out.trans (fin_bad r 2 n p (.inr (.inl (by rw [HG.out, List.getElem?_eq_none (by rw [← size_list]; exact c2)]; simp)))))
          clear c1 k2
          go_wp2_with fail
          refine (t6 _).mono ?_
          rintro e w' ⟨rfl, rfl⟩
          go_wp2_with fail
          refine (hn _).mono ?_
          rintro e w' ⟨rfl, rfl⟩
          go_wp2
          go_ret2
          exact RQ.mk HB.out B1
        have c3 : m < s.size := by omega
        clear c2
        by_cases c4 : s[m] ≠ 59
        · have HB := Lib.hid (HF.out.trans (fin_bad r 2 n p (.inr (.inl (by rw [HG.out, getE? s m c3]; simpa using c4)))))
          have b2 : ((s[m].toNat : Int) != 59) = true := by rw [bne_iff_ne]; intro h; exact u8_ne _ _ c4 (by show _ = 59; omega)
          clear c1 c4 k2
          go_wp2_with fail
          refine (t6 _).mono ?_
          rintro e w' ⟨rfl, rfl⟩
          go_wp2_with fail
          refine (hn _).mono ?_
          rintro e w' ⟨rfl, rfl⟩
          go_wp2
          go_ret2
          exact RQ.mk HB.out B1
        have c4 := Decidable.not_not.1 c4
        have b2 : ((s[m].toNat : Int) != 59) = false := by rw [c4]; decide
        have G59 := Lib.hid (show r[2 + n]? = some 59 by rw [HG.out, getE? s m c3, c4])
        clear c4
        by_cases c5 : p = 0
        · have HB := Lib.hid (HF.out.trans (fin_bad r 2 n p (.inr (.inr (.inl c5)))))
          have b3 : (p == 0) = true := by rw [beq_iff_eq]; exact c5
          clear c1 c5 k2
          go_wp2_with fail
          refine (t6 _).mono ?_
          rintro e w' ⟨rfl, rfl⟩
          go_wp2_with fail
          refine (hn _).mono ?_
          rintro e w' ⟨rfl, rfl⟩
          go_wp2
          go_ret2
          exact RQ.mk HB.out B1
        have b3 : (p == 0) = false := by rw [beq_eq_false_iff_ne]; exact c5
        have hi := is_any p (w.alloc (.cells #[.string ⟨#[38, 97, 109, 112, 59]⟩, .string ⟨#[38, 108, 116, 59]⟩, .string ⟨#[38, 103, 116, 59]⟩, .string ⟨#[38, 113, 117, 111, 116, 59]⟩, .string ⟨#[38, 97, 112, 111, 115, 59]⟩] 9))
        cases c6 : isPt p with
        | false =>
          rw [c6] at hi
          have HB := Lib.hid (HF.out.trans (fin_bad r 2 n p (.inr (.inr (.inr c6)))))
          clear c1 c5 c6 k2
          go_wp2_with fail
          refine (t6 _).mono ?_
          rintro e w' ⟨rfl, rfl⟩
          go_wp2_with fail
          refine (hn _).mono ?_
          rintro e w' ⟨rfl, rfl⟩
          go_wp2_with fail
          refine hi.mono ?_
          rintro e w' ⟨rfl, rfl⟩
          go_wp2
          go_ret2
          exact RQ.mk HB.out B1
        | true =>
          rw [c6] at hi
          have HB := Lib.hid (HF.out.trans (fin_good r 2 n p c1 G59.out c5 c6))
          clear c1 c5 c6 k2
          go_wp2_with fail
          refine (t6 _).mono ?_
          rintro e w' ⟨rfl, rfl⟩
          go_wp2_with fail
          refine (hn _).mono ?_
          rintro e w' ⟨rfl, rfl⟩
          go_wp2_with fail
          refine hi.mono ?_
          rintro e w' ⟨rfl, rfl⟩
          go_wp2
          go_ret2
          exact RQ.mkI HB.out (by have := HM.out; omega) B1
      | false =>
        cases q7 with
        | true =>
          have hl := L7.out rfl
          have hn := fun W => rnumber16_any (s.extract 3 s.size) 6 W (by simp; omega) (by omega)
          unfold NumOut at hn
          rw [drop_extract, HR.out, List.drop_succ_cons] at hn
          have hv := valD_len 16 6 (r.drop 2) (by omega) (by omega) (by omega)
          have hk := digs_length 16 6 (r.drop 2)
          rw [List.length_drop] at hk
          have HF := Lib.hid (show q0 = fin r 2 (digs 16 6 (r.drop 2)).length (valD 16 (digs 16 6 (r.drop 2))) by rw [HQ.out]; rfl)
          generalize valD 16 (digs 16 6 (r.drop 2)) = p at *
          generalize (digs 16 6 (r.drop 2)).length = n at *
          obtain ⟨v0, v1⟩ := hv
          obtain ⟨k1, k2⟩ := hk
          by_cases c1 : n = 0
          · have HB := Lib.hid (HF.out.trans (fin_bad r 2 n p (.inl c1)))
            have b1 : ((n : Int) == 0) = true := by rw [beq_iff_eq]; omega
            clear c1
            go_wp2_with fail
            refine (t6 _).mono ?_
            rintro e w' ⟨rfl, rfl⟩
            go_wp2_with fail
            refine (t7 _).mono ?_
            rintro e w' ⟨rfl, rfl⟩
            go_wp2_with fail
            refine (hn _).mono ?_
            rintro e w' ⟨rfl, rfl⟩
            go_wp2
            go_ret2
            exact RQ.mk HB.out B1
          have b1 : ((n : Int) == 0) = false := by rw [beq_eq_false_iff_ne]; omega
          obtain ⟨m, hm⟩ : ∃ m : Nat, m = 3 + n := ⟨_, rfl⟩
          have hix : (3 : Int) + (n : Int) = (m : Int) := by omega
          have HM := Lib.hid hm
          have m1 : 3 + n ≤ m := by omega
          have m2 : m ≤ 3 + n := by omega
          have HG := Lib.hid (show r[2 + n]? = s.data.toList[m]? by rw [HR.out, hm, show 3 + n = (2 + n) + 1 by omega, List.getElem?_cons_succ])
          clear hm
          by_cases c2 : s.size ≤ m
          · have HB := Lib.hid (HF.out.trans (fin_bad r 2 n p (.inr (.inl (by rw [HG.out, List.getElem?_eq_none (by rw [← size_list]; exact c2)]; simp)))))
            clear c1 k2
            go_wp2_with fail
            refine (t6 _).mono ?_
            rintro e w' ⟨rfl, rfl⟩
            go_wp2_with fail
            refine (t7 _).mono ?_
            rintro e w' ⟨rfl, rfl⟩
            go_wp2_with fail
            refine (hn _).mono ?_
            rintro e w' ⟨rfl, rfl⟩
            go_wp2
            go_ret2
            exact RQ.mk HB.out B1
          have c3 : m < s.size := by omega
          clear c2
          by_cases c4 : s[m] ≠ 59
          · have HB := Lib.hid (HF.out.trans (fin_bad r 2 n p (.inr (.inl (by rw [HG.out, getE? s m c3]; simpa using c4)))))
            have b2 : ((s[m].toNat : Int) != 59) = true := by rw [bne_iff_ne]; intro h; exact u8_ne _ _ c4 (by show _ = 59; omega)
            clear c1 c4 k2
            go_wp2_with fail
            refine (t6 _).mono ?_
            rintro e w' ⟨rfl, rfl⟩
            go_wp2_with fail
            refine (t7 _).mono ?_
            rintro e w' ⟨rfl, rfl⟩
            go_wp2_with fail
            refine (hn _).mono ?_
            rintro e w' ⟨rfl, rfl⟩
            go_wp2
            go_ret2
            exact RQ.mk HB.out B1
          have c4 := Decidable.not_not.1 c4
          have b2 : ((s[m].toNat : Int) != 59) = false := by rw [c4]; decide
          have G59 := Lib.hid (show r[2 + n]? = some 59 by rw [HG.out, getE? s m c3, c4])
          clear c4
          by_cases c5 : p = 0
          · have HB := Lib.hid (HF.out.trans (fin_bad r 2 n p (.inr (.inr (.inl c5)))))
            have b3 : (p == 0) = true := by rw [beq_iff_eq]; exact c5
            clear c1 c5 k2
            go_wp2_with fail
            refine (t6 _).mono ?_
            rintro e w' ⟨rfl, rfl⟩
            go_wp2_with fail
            refine (t7 _).mono ?_
            rintro e w' ⟨rfl, rfl⟩
            go_wp2_with fail
            refine (hn _).mono ?_
            rintro e w' ⟨rfl, rfl⟩
            go_wp2
            go_ret2
            exact RQ.mk HB.out B1
          have b3 : (p == 0) = false := by rw [beq_eq_false_iff_ne]; exact c5
          have hi := is_any p (w.alloc (.cells #[.string ⟨#[38, 97, 109, 112, 59]⟩, .string ⟨#[38, 108, 116, 59]⟩, .string ⟨#[38, 103, 116, 59]⟩, .string ⟨#[38, 113, 117, 111, 116, 59]⟩, .string ⟨#[38, 97, 112, 111, 115, 59]⟩] 9))
          cases c6 : isPt p with
          | false =>
            rw [c6] at hi
            have HB := Lib.hid (HF.out.trans (fin_bad r 2 n p (.inr (.inr (.inr c6)))))
            clear c1 c5 c6 k2
            go_wp2_with fail
            refine (t6 _).mono ?_
            rintro e w' ⟨rfl, rfl⟩
            go_wp2_with fail
            refine (t7 _).mono ?_
            rintro e w' ⟨rfl, rfl⟩
            go_wp2_with fail
            refine (hn _).mono ?_
            rintro e w' ⟨rfl, rfl⟩
            go_wp2_with fail
            refine hi.mono ?_
            rintro e w' ⟨rfl, rfl⟩
            go_wp2
            go_ret2
            exact RQ.mk HB.out B1
          | true =>
            rw [c6] at hi
            have HB := Lib.hid (HF.out.trans (fin_good r 2 n p c1 G59.out c5 c6))
            clear c1 c5 c6 k2
            go_wp2_with fail
            refine (t6 _).mono ?_
            rintro e w' ⟨rfl, rfl⟩
            go_wp2_with fail
            refine (t7 _).mono ?_
            rintro e w' ⟨rfl, rfl⟩
            go_wp2_with fail
            refine (hn _).mono ?_
            rintro e w' ⟨rfl, rfl⟩
            go_wp2_with fail
            refine hi.mono ?_
            rintro e w' ⟨rfl, rfl⟩
            go_wp2
            go_ret2
            exact RQ.mkI HB.out (by have := HM.out; omega) B1
        | false =>
          cases q8 with
          | true =>
            have hl := L8.out rfl
            have hn := fun W => rnumber10_any (s.extract 2 s.size) 7 W (by simp; omega) (by omega)
            unfold NumOut at hn
            rw [drop_extract, HR.out, List.drop_succ_cons] at hn
            have hv := valD_len 10 7 (r.drop 1) (by omega) (by omega) (by omega)
            have hk := digs_length 10 7 (r.drop 1)
            rw [List.length_drop] at hk
            have HF := Lib.hid (show q0 = fin r 1 (digs 10 7 (r.drop 1)).length (valD 10 (digs 10 7 (r.drop 1))) by rw [HQ.out]; rfl)
            generalize valD 10 (digs 10 7 (r.drop 1)) = p at *
            generalize (digs 10 7 (r.drop 1)).length = n at *
            obtain ⟨v0, v1⟩ := hv
            obtain ⟨k1, k2⟩ := hk
            by_cases c1 : n = 0
            · have HB := Lib.hid (HF.out.trans (fin_bad r 1 n p (.inl c1)))
              have b1 : ((n : Int) == 0) = true := by rw [beq_iff_eq]; omega
              clear c1
              go_wp2_with fail
              refine (t6 _).mono ?_
              rintro e w' ⟨rfl, rfl⟩
              go_wp2_with fail
              refine (t7 _).mono ?_
              rintro e w' ⟨rfl, rfl⟩
              go_wp2_with fail
              refine (t8 _).mono ?_
              rintro e w' ⟨rfl, rfl⟩
              go_wp2_with fail
              refine (hn _).mono ?_
              rintro e w' ⟨rfl, rfl⟩
              go_wp2
              go_ret2
              exact RQ.mk HB.out B1
            have b1 : ((n : Int) == 0) = false := by rw [beq_eq_false_iff_ne]; omega
            obtain ⟨m, hm⟩ : ∃ m : Nat, m = 2 + n := ⟨_, rfl⟩
            have hix : (2 : Int) + (n : Int) = (m : Int) := by omega
            have HM := Lib.hid hm
            have m1 : 2 + n ≤ m := by omega
            have m2 : m ≤ 2 + n := by omega
            have HG := Lib.hid (show r[1 + n]? = s.data.toList[m]? by rw [HR.out, hm, show 2 + n = (1 + n) + 1 by omega, List.getElem?_cons_succ])
            clear hm
            by_cases c2 : s.size ≤ m
            · have HB := Lib.hid (HF.out.trans (fin_bad r 1 n p (.inr (.inl (by rw [HG.out, List.getElem?_eq_none (by rw [← size_list]; exact c2)]; simp)))))
              clear c1 k2
              go_wp2_with fail
              refine (t6 _).mono ?_
              rintro e w' ⟨rfl, rfl⟩
              go_wp2_with fail
              refine (t7 _).mono ?_
              rintro e w' ⟨rfl, rfl⟩
              go_wp2_with fail
              refine (t8 _).mono ?_
              rintro e w' ⟨rfl, rfl⟩
              go_wp2_with fail
              refine (hn _).mono ?_
              rintro e w' ⟨rfl, rfl⟩
              go_wp2
              go_ret2
              exact RQ.mk HB.out B1
            have c3 : m < s.size := by omega
            clear c2
            by_cases c4 : s[m] ≠ 59
            · have HB := Lib.hid (HF.out.trans (fin_bad r 1 n p (.inr (.inl (by rw [HG.out, getE? s m c3]; simpa using c4)))))
              have b2 : ((s[m].toNat : Int) != 59) = true := by rw [bne_iff_ne]; intro h; exact u8_ne _ _ c4 (by show _ = 59; omega)
              clear c1 c4 k2
              go_wp2_with fail
              refine (t6 _).mono ?_
              rintro e w' ⟨rfl, rfl⟩
              go_wp2_with fail
              refine (t7 _).mono ?_
              rintro e w' ⟨rfl, rfl⟩
              go_wp2_with fail
              refine (t8 _).mono ?_
              rintro e w' ⟨rfl, rfl⟩
              go_wp2_with fail
              refine (hn _).mono ?_
              rintro e w' ⟨rfl, rfl⟩
              go_wp2
              go_ret2
              exact RQ.mk HB.out B1
            have c4 := Decidable.not_not.1 c4
            have b2 : ((s[m].toNat : Int) != 59) = false := by rw [c4]; decide
            have G59 := Lib.hid (show r[1 + n]? = some 59 by rw [HG.out, getE? s m c3, c4])
            clear c4
            by_cases c5 : p = 0
            · have HB := Lib.hid (HF.out.trans (fin_bad r 1 n p (.inr (.inr (.inl c5)))))
              have b3 : (p == 0) = true := by rw [beq_iff_eq]; exact c5
              clear c1 c5 k2
              go_wp2_with fail
              refine (t6 _).mono ?_
              rintro e w' ⟨rfl, rfl⟩
              go_wp2_with fail
              refine (t7 _).mono ?_
              rintro e w' ⟨rfl, rfl⟩
              go_wp2_with fail
              refine (t8 _).mono ?_
              rintro e w' ⟨rfl, rfl⟩
              go_wp2_with fail
              refine (hn _).mono ?_
              rintro e w' ⟨rfl, rfl⟩
              go_wp2
              go_ret2
              exact RQ.mk HB.out B1
            have b3 : (p == 0) = false := by rw [beq_eq_false_iff_ne]; exact c5
            have hi := is_any p (w.alloc (.cells #[.string ⟨#[38, 97, 109, 112, 59]⟩, .string ⟨#[38, 108, 116, 59]⟩, .string ⟨#[38, 103, 116, 59]⟩, .string ⟨#[38, 113, 117, 111, 116, 59]⟩, .string ⟨#[38, 97, 112, 111, 115, 59]⟩] 9))
            cases c6 : isPt p with
            | false =>
              rw [c6] at hi
              have HB := Lib.hid (HF.out.trans (fin_bad r 1 n p (.inr (.inr (.inr c6)))))
              clear c1 c5 c6 k2
              go_wp2_with fail
              refine (t6 _).mono ?_
              rintro e w' ⟨rfl, rfl⟩
              go_wp2_with fail
              refine (t7 _).mono ?_
              rintro e w' ⟨rfl, rfl⟩
              go_wp2_with fail
              refine (t8 _).mono ?_
              rintro e w' ⟨rfl, rfl⟩
              go_wp2_with fail
              refine (hn _).mono ?_
              rintro e w' ⟨rfl, rfl⟩
              go_wp2_with fail
              refine hi.mono ?_
              rintro e w' ⟨rfl, rfl⟩
              go_wp2
              go_ret2
              exact RQ.mk HB.out B1
            | true =>
              rw [c6] at hi
              have HB := Lib.hid (HF.out.trans (fin_good r 1 n p c1 G59.out c5 c6))
              clear c1 c5 c6 k2
              go_wp2_with fail
              refine (t6 _).mono ?_
              rintro e w' ⟨rfl, rfl⟩
              go_wp2_with fail
              refine (t7 _).mono ?_
              rintro e w' ⟨rfl, rfl⟩
              go_wp2_with fail
              refine (t8 _).mono ?_
              rintro e w' ⟨rfl, rfl⟩
              go_wp2_with fail
              refine (hn _).mono ?_
              rintro e w' ⟨rfl, rfl⟩
              go_wp2_with fail
              refine hi.mono ?_
              rintro e w' ⟨rfl, rfl⟩
              go_wp2
              go_ret2
              exact RQ.mkI HB.out (by have := HM.out; omega) B1
          | false =>
            have HB := Lib.hid (show q0 = (-1, 0) by rw [HQ.out]; rfl)
            go_wp2_with fail
            refine (t6 _).mono ?_
            rintro e w' ⟨rfl, rfl⟩
            go_wp2_with fail
            refine (t7 _).mono ?_
            rintro e w' ⟨rfl, rfl⟩
            go_wp2_with fail
            refine (t8 _).mono ?_
            rintro e w' ⟨rfl, rfl⟩
            go_wp2
            go_ret2
            exact RQ.mk HB.out B1
end Go.Proofs.YtoddghppbfehpaaDoor
