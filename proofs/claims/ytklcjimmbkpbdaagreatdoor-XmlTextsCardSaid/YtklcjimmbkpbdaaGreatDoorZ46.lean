/-
  Of the proofs of layer 8 (elements of XML): the parts FA FE FF. No conditions.
-/
import Derived.Test.YtklcjimmbkpbdaaGreatDoorZ07
namespace Go.Proofs.YtklcjimmbkpbdaaGreatDoor
open Go.RowKit
open Go.Lib

def digB (base : Int) (c : UInt8) : Int := if digN c < base then digN c else -1
theorem digB_yes {base : Int} {c : UInt8} (h : isD base c = true) : digB base c = digN c := by
  simp [isD] at h; unfold digB; rw [if_pos h.2]
theorem digB_no {base : Int} {c : UInt8} (h : isD base c = false) : digB base c = -1 := by
  unfold digB
  split
  · rename_i h2
    have hb := digN_bd c
    have : ¬ 0 ≤ digN c := fun h3 => by
      have : isD base c = true := by simp [isD, h2, h3]
      rw [this] at h; cases h
    omega
  · rfl
set_option maxRecDepth 100000 in
theorem rdigit_any (c : UInt8) (base : Int) (w : World) (hb0 : 0 ≤ base) : Calls Tryz.prog 142 #[.int .u8 c.toNat, .int .i64 base] w fun e w' => e = .returned (.int .i64 (digB base c)) ∧ w = w' := by
  have hc : c.toNat < 256 := UInt8.toNat_lt c
  have fin : ∀ (x y : Int), digN c = x → (x < base ∧ y = x ∨ base ≤ x ∧ y = -1) → y = digB base c := by
    intro x y h1 h2
    unfold digB
    rw [h1]
    rcases h2 with ⟨h2, h3⟩ | ⟨h2, h3⟩
    · rw [if_pos h2, h3]
    · rw [if_neg (by omega), h3]
  have FIN := Lib.hid fin
  clear fin
  by_cases a : 48 ≤ c.toNat ∧ c.toNat ≤ 57
  · have HD := Lib.hid (show digN c = (c.toNat : Int) - 48 by unfold digN; rw [if_pos a])
    obtain ⟨a1, a2⟩ := a
    by_cases hb : base ≤ (c.toNat : Int) - 48
    all_goals
      go_enter Tryz.func142, Tryz.ntmps142
      go_wp2
      go_ret
      exact ⟨ret_int (FIN.out _ _ HD.out (by omega)), rfl⟩
  by_cases b : 97 ≤ c.toNat ∧ c.toNat ≤ 102
  · have HD := Lib.hid (show digN c = (c.toNat : Int) - 97 + 10 by unfold digN; rw [if_neg a, if_pos b]; omega)
    obtain ⟨b1, b2⟩ := b
    by_cases hb : base ≤ (c.toNat : Int) - 97 + 10
    all_goals
      go_enter Tryz.func142, Tryz.ntmps142
      go_wp2
      go_ret
      exact ⟨ret_int (FIN.out _ _ HD.out (by omega)), rfl⟩
  by_cases d : 65 ≤ c.toNat ∧ c.toNat ≤ 70
  · have HD := Lib.hid (show digN c = (c.toNat : Int) - 65 + 10 by unfold digN; rw [if_neg a, if_neg b, if_pos d]; omega)
    obtain ⟨d1, d2⟩ := d
    by_cases hb : base ≤ (c.toNat : Int) - 65 + 10
    all_goals
      go_enter Tryz.func142, Tryz.ntmps142
      go_wp2
      go_ret
      exact ⟨ret_int (FIN.out _ _ HD.out (by omega)), rfl⟩
  · have HD := Lib.hid (show digN c = -1 by unfold digN; rw [if_neg a, if_neg b, if_neg d])
    go_enter Tryz.func142, Tryz.ntmps142
    go_wp2
    all_goals first | (exfalso; omega) | (go_ret; exact ⟨ret_int (FIN.out _ _ HD.out (by omega)), rfl⟩)

theorem pre_short (p l : List UInt8) (h : l.length < p.length) : p.isPrefixOf l = false := by
  rw [Bool.eq_false_iff]
  intro hh
  have := (List.isPrefixOf_iff_prefix.1 hh).length_le
  omega
theorem pre_take (p l : List UInt8) : p.isPrefixOf l = (l.take p.length == p) := by
  rw [Bool.eq_iff_iff, List.isPrefixOf_iff_prefix, List.prefix_iff_eq_take, beq_iff_eq]
  exact eq_comm
set_option maxRecDepth 100000 in
theorem starts_any (s p : ByteArray) (w : World) : Calls Tryz.prog 127 #[.string s, .string p] w fun e w' => e = .returned (.bool (p.data.toList.isPrefixOf s.data.toList)) ∧ w = w' := by
  have HL := Lib.hid (size_list s)
  have HP := Lib.hid (size_list p)
  by_cases h : s.size < p.size
  · have HV := Lib.hid (pre_short p.data.toList s.data.toList (by rw [← HL.out, ← HP.out]; exact h))
    have hd : decide (p.size ≤ s.size) = false := by simpa using h
    go_enter Tryz.func127, Tryz.ntmps127
    go_wp2
    all_goals first | (exfalso; omega) | (go_ret; exact ⟨ret_bool (by rw [HV.out]), rfl⟩)
  · have hle : p.size ≤ s.size := by omega
    have hd : decide (p.size ≤ s.size) = true := by simpa using hle
    have HV := Lib.hid (show p.data.toList.isPrefixOf s.data.toList = ((s.extract 0 p.size).toList == p.toList) by
      rw [pre_take, Lib.toList_data, Lib.toList_data, take_extract, HP.out])
    clear h
    generalize p.data.toList.isPrefixOf s.data.toList = q at *
    go_enter Tryz.func127, Tryz.ntmps127
    go_wp2
    all_goals first | (exfalso; omega) | (go_ret; exact ⟨ret_bool (by rw [HV.out]), rfl⟩)

theorem digs_stop (base : Int) (m : Nat) (l : List UInt8) (k : Nat) (hk : k ≤ l.length) (hm : k ≤ m) (hall : (l.take k).all (isD base) = true) (hend : k = l.length ∨ k = m ∨ ∃ c, l[k]? = some c ∧ isD base c = false) : digs base m l = l.take k := by
  unfold digs
  have e : l.take m = l.take k ++ (l.take m).drop k := by
    have h := (List.take_append_drop k (l.take m)).symm
    rw [List.take_take, Nat.min_eq_left hm] at h
    exact h
  rw [e, List.takeWhile_append_of_pos (fun c hc => List.all_eq_true.1 hall c hc)]
  have : ((l.take m).drop k).takeWhile (isD base) = [] := by
    rcases hend with h | h | ⟨c, h1, h2⟩
    · rw [List.drop_of_length_le (by rw [List.length_take]; omega)]; rfl
    · rw [List.drop_of_length_le (by rw [List.length_take]; omega)]; rfl
    · by_cases hkm : k = m
      · rw [List.drop_of_length_le (by rw [List.length_take]; omega)]; rfl
      · have hg : (l.take m)[k]? = some c := by rw [List.getElem?_take_of_lt (by omega)]; exact h1
        obtain ⟨hlt, hgv⟩ := List.getElem?_eq_some_iff.1 hg
        rw [List.drop_eq_getElem_cons hlt, hgv, List.takeWhile_cons, h2]
        rfl
  rw [this, List.append_nil]
/-- What Number answers. -/
def NumOut (base : Int) (m : Nat) (l : List UInt8) (w : World) (e : Ending) (w' : World) : Prop := e = .returned (.tuple #[.int .i64 (valD base (digs base m l)), .int .i64 (digs base m l).length]) ∧ w = w'
theorem NumOut.mk {base : Int} {m k : Nat} {l : List UInt8} {w : World} (h : digs base m l = l.take k) (hk : k ≤ l.length) : NumOut base m l w (.returned (.tuple #[.int .i64 (valD base (l.take k)), .int .i64 k])) w := by
  unfold NumOut; rw [h, List.length_take, Nat.min_eq_left hk]; exact ⟨rfl, rfl⟩
set_option maxRecDepth 100000 in
set_option maxHeartbeats 1000000 in
theorem rnumber16_any (s : ByteArray) (m : Nat) (w : World) (hs : s.size ≤ 1000000) (hm : m ≤ 7) : Calls Tryz.prog 128 #[.string s, .int .i64 16, .int .i64 m] w (NumOut 16 m s.data.toList w) := by
  have HL := Lib.hid (size_list s)
  go_enter Tryz.func128, Tryz.ntmps128
  go_wp2
  go_loop [8, 9] (fun n i => ∃ k : Nat, k ≤ s.size ∧ k ≤ m ∧ i = .int .i64 k ∧ n = .int .i64 (valD 16 (s.data.toList.take k)) ∧ Hid ((s.data.toList.take k).all (isD 16) = true)) (fun _ i => s.size - (RowKit.intOf i).toNat)
  case atStart => exact ⟨0, Nat.zero_le _, Nat.zero_le _, rfl, rfl, by simp [Hid]⟩
  case round =>
    obtain ⟨k, hk, hkm, rfl, rfl, hall⟩ := hrel
    have hbd := valD_bd 16 (by omega) (by omega) (s.data.toList.take k) (by rw [List.length_take]; omega) hall.out
    by_cases hlt : k < s.size
    · have dlt : decide (k < s.size) = true := by simpa using hlt
      by_cases hlm : k < m
      · have dlm : decide (k < m) = true := by simpa using hlm
        have HT := Lib.hid (take_snoc s k hlt)
        have HS := Lib.hid (valD_snoc 16 (s.data.toList.take k) s[k])
        have HG := Lib.hid (getE? s k hlt)
        have hdb := digN_bd s[k]
        have hdg := rdigit_any s[k] 16 w (by omega)
        cases hd : isD 16 s[k] with
        | true =>
          rw [digB_yes hd] at hdg
          have hd0 : 0 ≤ digN s[k] := by simp [isD] at hd; exact hd.1
          have HD := Lib.hid hd
          clear hd
          generalize valD 16 (s.data.toList.take k) = v at *
          generalize digN s[k] = q at *
          have hcm := Lib.hid (Int.mul_comm 16 v)
          go_wp2_with fail
          refine hdg.mono ?_
          rintro e w' ⟨rfl, rfl⟩
          go_wp2_with fail
          refine hdg.mono ?_
          clear hdg
          rintro e w' ⟨rfl, rfl⟩
          go_wp2
          go_round
          case rel => exact ⟨k + 1, by omega, by omega, by go_num, by rw [HT.out, HS.out, ← hcm.out], by show _ = true; rw [HT.out, List.all_append, hall.out]; simp [HD.out]⟩
          case measure => simp [RowKit.intOf]; omega
        | false =>
          rw [digB_no hd] at hdg
          have HV := Lib.hid (digs_stop 16 m s.data.toList k (by rw [← HL.out]; omega) hkm hall.out (.inr (.inr ⟨s[k], HG.out, hd⟩)))
          clear hd
          go_wp2_with fail
          refine hdg.mono ?_
          clear hdg
          rintro e w' ⟨rfl, rfl⟩
          go_wp2
          go_ret2
          exact NumOut.mk HV.out (by rw [← HL.out]; omega)
      · have dlm : decide (k < m) = false := by simpa using hlm
        have HV := Lib.hid (digs_stop 16 m s.data.toList k (by rw [← HL.out]; omega) hkm hall.out (.inr (.inl (by omega))))
        go_wp2
        all_goals first | (exfalso; omega) | (go_ret2; exact NumOut.mk HV.out (by rw [← HL.out]; omega))
    · have dlt : decide (k < s.size) = false := by simpa using hlt
      have HV := Lib.hid (digs_stop 16 m s.data.toList k (by rw [← HL.out]; omega) hkm hall.out (.inl (by rw [← HL.out]; omega)))
      go_wp2
      all_goals first | (exfalso; omega) | (go_ret2; exact NumOut.mk HV.out (by rw [← HL.out]; omega))
set_option maxRecDepth 100000 in
set_option maxHeartbeats 1000000 in
theorem rnumber10_any (s : ByteArray) (m : Nat) (w : World) (hs : s.size ≤ 1000000) (hm : m ≤ 7) : Calls Tryz.prog 128 #[.string s, .int .i64 10, .int .i64 m] w (NumOut 10 m s.data.toList w) := by
  have HL := Lib.hid (size_list s)
  go_enter Tryz.func128, Tryz.ntmps128
  go_wp2
  go_loop [8, 9] (fun n i => ∃ k : Nat, k ≤ s.size ∧ k ≤ m ∧ i = .int .i64 k ∧ n = .int .i64 (valD 10 (s.data.toList.take k)) ∧ Hid ((s.data.toList.take k).all (isD 10) = true)) (fun _ i => s.size - (RowKit.intOf i).toNat)
  case atStart => exact ⟨0, Nat.zero_le _, Nat.zero_le _, rfl, rfl, by simp [Hid]⟩
  case round =>
    obtain ⟨k, hk, hkm, rfl, rfl, hall⟩ := hrel
    have hbd := valD_bd 10 (by omega) (by omega) (s.data.toList.take k) (by rw [List.length_take]; omega) hall.out
    by_cases hlt : k < s.size
    · have dlt : decide (k < s.size) = true := by simpa using hlt
      by_cases hlm : k < m
      · have dlm : decide (k < m) = true := by simpa using hlm
        have HT := Lib.hid (take_snoc s k hlt)
        have HS := Lib.hid (valD_snoc 10 (s.data.toList.take k) s[k])
        have HG := Lib.hid (getE? s k hlt)
        have hdb := digN_bd s[k]
        have hdg := rdigit_any s[k] 10 w (by omega)
        cases hd : isD 10 s[k] with
        | true =>
          rw [digB_yes hd] at hdg
          have hd0 : 0 ≤ digN s[k] := by simp [isD] at hd; exact hd.1
          have HD := Lib.hid hd
          clear hd
          generalize valD 10 (s.data.toList.take k) = v at *
          generalize digN s[k] = q at *
          have hcm := Lib.hid (Int.mul_comm 10 v)
          go_wp2_with fail
          refine hdg.mono ?_
          rintro e w' ⟨rfl, rfl⟩
          go_wp2_with fail
          refine hdg.mono ?_
          clear hdg
          rintro e w' ⟨rfl, rfl⟩
          go_wp2
          go_round
          case rel => exact ⟨k + 1, by omega, by omega, by go_num, by rw [HT.out, HS.out, ← hcm.out], by show _ = true; rw [HT.out, List.all_append, hall.out]; simp [HD.out]⟩
          case measure => simp [RowKit.intOf]; omega
        | false =>
          rw [digB_no hd] at hdg
          have HV := Lib.hid (digs_stop 10 m s.data.toList k (by rw [← HL.out]; omega) hkm hall.out (.inr (.inr ⟨s[k], HG.out, hd⟩)))
          clear hd
          go_wp2_with fail
          refine hdg.mono ?_
          clear hdg
          rintro e w' ⟨rfl, rfl⟩
          go_wp2
          go_ret2
          exact NumOut.mk HV.out (by rw [← HL.out]; omega)
      · have dlm : decide (k < m) = false := by simpa using hlm
        have HV := Lib.hid (digs_stop 10 m s.data.toList k (by rw [← HL.out]; omega) hkm hall.out (.inr (.inl (by omega))))
        go_wp2
        all_goals first | (exfalso; omega) | (go_ret2; exact NumOut.mk HV.out (by rw [← HL.out]; omega))
    · have dlt : decide (k < s.size) = false := by simpa using hlt
      have HV := Lib.hid (digs_stop 10 m s.data.toList k (by rw [← HL.out]; omega) hkm hall.out (.inl (by rw [← HL.out]; omega)))
      go_wp2
      all_goals first | (exfalso; omega) | (go_ret2; exact NumOut.mk HV.out (by rw [← HL.out]; omega))
end Go.Proofs.YtklcjimmbkpbdaaGreatDoor
namespace Go.Proofs.YtklcjimmbkpbdaaGreatDoor
open Go.RowKit
open Go.Lib

/-- What the document's Reference answers. -/
def RQ (q : Int × Nat) (w : World) (e : Ending) (w' : World) : Prop := e = .returned (.tuple #[.int .i64 q.1, .int .i64 q.2]) ∧ Below w.heap.size w w'
theorem RQ.mk {q : Int × Nat} {p : Int} {n : Nat} {w w' : World} (h : q = (p, n)) (hb : Below w.heap.size w w') : RQ q w (.returned (.tuple #[.int .i64 p, .int .i64 n])) w' := by subst h; exact ⟨rfl, hb⟩
theorem RQ.mkI {q : Int × Nat} {p x : Int} {n : Nat} {w w' : World} (h : q = (p, n)) (hx : x = n) (hb : Below w.heap.size w w') : RQ q w (.returned (.tuple #[.int .i64 p, .int .i64 x])) w' := by subst h; subst hx; exact ⟨rfl, hb⟩
theorem RQ.mkP {q : Int × Nat} {p x : Int} {n : Nat} {w w' : World} (h : q = (p, n)) (hx : x = p) (hb : Below w.heap.size w w') : RQ q w (.returned (.tuple #[.int .i64 x, .int .i64 n])) w' := by subst h; subst hx; exact ⟨rfl, hb⟩
theorem valD_len (base : Int) (m : Nat) (l : List UInt8) (h0 : 0 ≤ base) (h1 : base ≤ 16) (hm : m ≤ 7) : 0 ≤ valD base (digs base m l) ∧ valD base (digs base m l) ≤ 268435455 :=
  valD_bd base h0 h1 _ (by have := (digs_length base m l).1; omega) (List.all_eq_true.2 (digs_all base m l))
theorem fin_bad (r : List UInt8) (a k : Nat) (p : Int) (h : k = 0 ∨ r[a + k]? ≠ some 59 ∨ p = 0 ∨ isPt p = false) : fin r a k p = (-1, 0) := by
  unfold fin
  rw [if_neg]
  rintro ⟨h1, h2, h3, h4⟩
  rcases h with h | h | h | h
  · exact h1 h
  · exact h h2
  · exact h3 h
  · rw [h] at h4; cases h4
theorem fin_good (r : List UInt8) (a k : Nat) (p : Int) (h1 : k ≠ 0) (h2 : r[a + k]? = some 59) (h3 : p ≠ 0) (h4 : isPt p = true) : fin r a k p = (p, a + k + 2) := by
  unfold fin; rw [if_pos ⟨h1, h2, h3, h4⟩]
theorem pre38 (x r : List UInt8) : (38 :: x).isPrefixOf (38 :: r) = x.isPrefixOf r := by simp [List.isPrefixOf]
theorem starts_at (s : ByteArray) (r : List UInt8) (hr : s.data.toList = 38 :: r) (x : List UInt8) (b : Bool) (hb : x.isPrefixOf r = b) (w : World) : Calls Tryz.prog 127 #[.string s, .string ⟨(38 :: x).toArray⟩] w fun e w' => e = .returned (.bool b) ∧ w = w' := by
  have h := starts_any s ⟨(38 :: x).toArray⟩ w
  rw [show (⟨(38 :: x).toArray⟩ : ByteArray).data.toList = 38 :: x from rfl, hr, pre38, hb] at h
  exact h
def refBy (r : List UInt8) (q1 q2 q3 q4 q5 q6 q7 q8 : Bool) : Int × Nat :=
  if q1 = true then (38, 5) else if q2 = true then (60, 4) else if q3 = true then (62, 4) else if q4 = true then (34, 6) else if q5 = true then (39, 6)
  else if q6 = true ∨ q7 = true then fin r 2 (digs 16 6 (r.drop 2)).length (valD 16 (digs 16 6 (r.drop 2)))
  else if q8 = true then fin r 1 (digs 10 7 (r.drop 1)).length (valD 10 (digs 10 7 (r.drop 1))) else (-1, 0)
theorem refQ_by (r : List UInt8) : refQ r = refBy r ([97, 109, 112, 59].isPrefixOf r) ([108, 116, 59].isPrefixOf r) ([103, 116, 59].isPrefixOf r) ([113, 117, 111, 116, 59].isPrefixOf r) ([97, 112, 111, 115, 59].isPrefixOf r) ([35, 120].isPrefixOf r) ([35, 88].isPrefixOf r) ([35].isPrefixOf r) := rfl
theorem pre_len {x r : List UInt8} (h : x.isPrefixOf r = true) : x.length ≤ r.length := (List.isPrefixOf_iff_prefix.1 h).length_le
set_option maxRecDepth 100000 in
set_option maxHeartbeats 8000000 in
theorem rref_any (s : ByteArray) (r : List UInt8) (w : World) (hs : s.size ≤ 1000000) (hr : s.data.toList = 38 :: r) : Calls Tryz.prog 108 #[.string s] w (RQ (refQ r) w) := by
  have hq := refQ_by r
  have HR := Lib.hid hr
  have hsz : s.size = r.length + 1 := by rw [size_list, hr]; rfl
  have hlen : r.length + 1 ≤ s.size := by omega
  have hlen2 : s.size ≤ r.length + 1 := by omega
  clear hsz hr
  obtain ⟨q1, e1⟩ : ∃ b, ([97, 109, 112, 59] : List UInt8).isPrefixOf r = b := ⟨_, rfl⟩
  have t1 := fun W => starts_at s r HR.out [97, 109, 112, 59] q1 e1 W
  obtain ⟨q2, e2⟩ : ∃ b, ([108, 116, 59] : List UInt8).isPrefixOf r = b := ⟨_, rfl⟩
  have t2 := fun W => starts_at s r HR.out [108, 116, 59] q2 e2 W
  obtain ⟨q3, e3⟩ : ∃ b, ([103, 116, 59] : List UInt8).isPrefixOf r = b := ⟨_, rfl⟩
  have t3 := fun W => starts_at s r HR.out [103, 116, 59] q3 e3 W
  obtain ⟨q4, e4⟩ : ∃ b, ([113, 117, 111, 116, 59] : List UInt8).isPrefixOf r = b := ⟨_, rfl⟩
  have t4 := fun W => starts_at s r HR.out [113, 117, 111, 116, 59] q4 e4 W
  obtain ⟨q5, e5⟩ : ∃ b, ([97, 112, 111, 115, 59] : List UInt8).isPrefixOf r = b := ⟨_, rfl⟩
  have t5 := fun W => starts_at s r HR.out [97, 112, 111, 115, 59] q5 e5 W
  obtain ⟨q6, e6⟩ : ∃ b, ([35, 120] : List UInt8).isPrefixOf r = b := ⟨_, rfl⟩
  have t6 := fun W => starts_at s r HR.out [35, 120] q6 e6 W
  obtain ⟨q7, e7⟩ : ∃ b, ([35, 88] : List UInt8).isPrefixOf r = b := ⟨_, rfl⟩
  have t7 := fun W => starts_at s r HR.out [35, 88] q7 e7 W
  obtain ⟨q8, e8⟩ : ∃ b, ([35] : List UInt8).isPrefixOf r = b := ⟨_, rfl⟩
  have t8 := fun W => starts_at s r HR.out [35] q8 e8 W
  rw [e1, e2, e3, e4, e5, e6, e7, e8] at hq
  have l6 : q6 = true → 2 ≤ r.length := fun h => pre_len (x := [35, 120]) (e6.trans h)
  have l7 : q7 = true → 2 ≤ r.length := fun h => pre_len (x := [35, 88]) (e7.trans h)
  have l8 : q8 = true → 1 ≤ r.length := fun h => pre_len (x := [35]) (e8.trans h)
  have L6 := Lib.hid l6
  have L7 := Lib.hid l7
  have L8 := Lib.hid l8
  clear l6 l7 l8 e1 e2 e3 e4 e5 e6 e7 e8
  generalize refQ r = q0 at *
  have HQ := Lib.hid hq
  clear hq
  go_enter Tryz.func108, Tryz.ntmps108
  go_wp2
  go_loop [13] (fun i => ∃ x : Int, i = .int .i64 x ∧ (x = 0 ∨ x = 1 ∧ q1 = false ∨ x = 2 ∧ q1 = false ∧ q2 = false ∨ x = 3 ∧ q1 = false ∧ q2 = false ∧ q3 = false ∨ x = 4 ∧ q1 = false ∧ q2 = false ∧ q3 = false ∧ q4 = false ∨ x = 5 ∧ q1 = false ∧ q2 = false ∧ q3 = false ∧ q4 = false ∧ q5 = false)) (fun i => (5 - RowKit.intOf i).toNat)
  case atStart => exact ⟨0, rfl, .inl rfl⟩
  case round =>
    obtain ⟨x, rfl, hx⟩ := hrel
    have B1 : Below w.heap.size w (w.alloc (.cells #[.string ⟨#[38, 97, 109, 112, 59]⟩, .string ⟨#[38, 108, 116, 59]⟩, .string ⟨#[38, 103, 116, 59]⟩, .string ⟨#[38, 113, 117, 111, 116, 59]⟩, .string ⟨#[38, 97, 112, 111, 115, 59]⟩] 9)) := (Below.refl _ w).alloc (Nat.le_refl _) _
    rcases hx with rfl | ⟨rfl, rfl⟩ | ⟨rfl, rfl, rfl⟩ | ⟨rfl, rfl, rfl, rfl⟩ | ⟨rfl, rfl, rfl, rfl, rfl⟩ | ⟨rfl, rfl, rfl, rfl, rfl, rfl⟩
    · cases q1 with
      | true =>
        go_wp2_with fail
        refine (t1 _).mono ?_
        rintro e w' ⟨rfl, rfl⟩
        go_wp2
        go_ret2
        exact RQ.mkP (p := 38) (n := 5) (by rw [HQ.out]; rfl) (by decide +kernel) B1
      | false =>
        go_wp2_with fail
        refine (t1 _).mono ?_
        rintro e w' ⟨rfl, rfl⟩
        go_wp2
        go_round
        case rel => exact ⟨1, rfl, by simp⟩
        case measure => simp [RowKit.intOf]
    · cases q2 with
      | true =>
        go_wp2_with fail
        refine (t2 _).mono ?_
        rintro e w' ⟨rfl, rfl⟩
        go_wp2
        go_ret2
        exact RQ.mkP (p := 60) (n := 4) (by rw [HQ.out]; rfl) (by decide +kernel) B1
      | false =>
        go_wp2_with fail
        refine (t2 _).mono ?_
        rintro e w' ⟨rfl, rfl⟩
        go_wp2
        go_round
        case rel => exact ⟨2, rfl, by simp⟩
        case measure => simp [RowKit.intOf]
    · cases q3 with
      | true =>
        go_wp2_with fail
        refine (t3 _).mono ?_
        rintro e w' ⟨rfl, rfl⟩
        go_wp2
        go_ret2
        exact RQ.mkP (p := 62) (n := 4) (by rw [HQ.out]; rfl) (by decide +kernel) B1
      | false =>
        go_wp2_with fail
        refine (t3 _).mono ?_
        rintro e w' ⟨rfl, rfl⟩
        go_wp2
        go_round
        case rel => exact ⟨3, rfl, by simp⟩
        case measure => simp [RowKit.intOf]
    · cases q4 with
      | true =>
        go_wp2_with fail
        refine (t4 _).mono ?_
        rintro e w' ⟨rfl, rfl⟩
        go_wp2
        go_ret2
        exact RQ.mkP (p := 34) (n := 6) (by rw [HQ.out]; rfl) (by decide +kernel) B1
      | false =>
        go_wp2_with fail
        refine (t4 _).mono ?_
        rintro e w' ⟨rfl, rfl⟩
        go_wp2
        go_round
        case rel => exact ⟨4, rfl, by simp⟩
        case measure => simp [RowKit.intOf]
    · cases q5 with
      | true =>
        go_wp2_with fail
        refine (t5 _).mono ?_
        rintro e w' ⟨rfl, rfl⟩
        go_wp2
        go_ret2
        exact RQ.mkP (p := 39) (n := 6) (by rw [HQ.out]; rfl) (by decide +kernel) B1
      | false =>
        go_wp2_with fail
        refine (t5 _).mono ?_
        rintro e w' ⟨rfl, rfl⟩
        go_wp2
        go_round
        case rel => exact ⟨5, rfl, by simp⟩
        case measure => simp [RowKit.intOf]
    · cases q6 with
      | true =>
        have hl := L6.out rfl
        have hn := fun W => rnumber16_any (s.extract 3 s.size) 6 W (by simp; omega) (by omega)
        unfold NumOut at hn
        rw [drop_extract, HR.out, List.drop_succ_cons] at hn
        have hv := valD_len 16 6 (r.drop 2) (by omega) (by omega) (by omega)
        have hk := digs_length 16 6 (r.drop 2)
        rw [List.length_drop] at hk
        have HF := Lib.hid (show q0 = fin r 2 (digs 16 6 (r.drop 2)).length (valD 16 (digs 16 6 (r.drop 2))) by rw [HQ.out]; rfl)
        generalize valD 16 (digs 16 6 (r.drop 2)) = p at *
        generalize (digs 16 6 (r.drop 2)).length = n at *
        obtain ⟨v0, v1⟩ := hv
        obtain ⟨k1, k2⟩ := hk
        by_cases c1 : n = 0
        · have HB := Lib.hid (HF.out.trans (fin_bad r 2 n p (.inl c1)))
          have b1 : ((n : Int) == 0) = true := by rw [beq_iff_eq]; omega
          clear c1
          go_wp2_with fail
          refine (t6 _).mono ?_
          rintro e w' ⟨rfl, rfl⟩
          go_wp2_with fail
          refine (hn _).mono ?_
          rintro e w' ⟨rfl, rfl⟩
          go_wp2
          go_ret2
          exact RQ.mk HB.out B1
        have b1 : ((n : Int) == 0) = false := by rw [beq_eq_false_iff_ne]; omega
        obtain ⟨m, hm⟩ : ∃ m : Nat, m = 3 + n := ⟨_, rfl⟩
        have hix : (3 : Int) + (n : Int) = (m : Int) := by omega
        have HM := Lib.hid hm
        have m1 : 3 + n ≤ m := by omega
        have m2 : m ≤ 3 + n := by omega
        have HG := Lib.hid (show r[2 + n]? = s.data.toList[m]? by rw [HR.out, hm, show 3 + n = (2 + n) + 1 by omega, List.getElem?_cons_succ])
        clear hm
        by_cases c2 : s.size ≤ m
        · have HB := Lib.hid (HF.out.trans (fin_bad r 2 n p (.inr (.inl (by rw [HG.out, List.getElem?_eq_none (by rw [← size_list]; exact c2)]; simp)))))
          clear c1 k2
          go_wp2_with fail
          refine (t6 _).mono ?_
          rintro e w' ⟨rfl, rfl⟩
          go_wp2_with fail
          refine (hn _).mono ?_
          rintro e w' ⟨rfl, rfl⟩
          go_wp2
          go_ret2
          exact RQ.mk HB.out B1
        have c3 : m < s.size := by omega
        clear c2
        by_cases c4 : s[m] ≠ 59
        · have HB := Lib.hid (HF.out.trans (fin_bad r 2 n p (.inr (.inl (by rw [HG.out, getE? s m c3]; simpa using c4)))))
          have b2 : ((s[m].toNat : Int) != 59) = true := by rw [bne_iff_ne]; intro h; exact u8_ne _ _ c4 (by show _ = 59; omega)
          clear c1 c4 k2
          go_wp2_with fail
          refine (t6 _).mono ?_
          rintro e w' ⟨rfl, rfl⟩
          go_wp2_with fail
          refine (hn _).mono ?_
          rintro e w' ⟨rfl, rfl⟩
          go_wp2
          go_ret2
          exact RQ.mk HB.out B1
        have c4 := Decidable.not_not.1 c4
        have b2 : ((s[m].toNat : Int) != 59) = false := by rw [c4]; decide
        have G59 := Lib.hid (show r[2 + n]? = some 59 by rw [HG.out, getE? s m c3, c4])
        clear c4
        by_cases c5 : p = 0
        · have HB := Lib.hid (HF.out.trans (fin_bad r 2 n p (.inr (.inr (.inl c5)))))
          have b3 : (p == 0) = true := by rw [beq_iff_eq]; exact c5
          clear c1 c5 k2
          go_wp2_with fail
          refine (t6 _).mono ?_
          rintro e w' ⟨rfl, rfl⟩
          go_wp2_with fail
          refine (hn _).mono ?_
          rintro e w' ⟨rfl, rfl⟩
          go_wp2
          go_ret2
          exact RQ.mk HB.out B1
        have b3 : (p == 0) = false := by rw [beq_eq_false_iff_ne]; exact c5
        have hi := is_any p (w.alloc (.cells #[.string ⟨#[38, 97, 109, 112, 59]⟩, .string ⟨#[38, 108, 116, 59]⟩, .string ⟨#[38, 103, 116, 59]⟩, .string ⟨#[38, 113, 117, 111, 116, 59]⟩, .string ⟨#[38, 97, 112, 111, 115, 59]⟩] 9))
        cases c6 : isPt p with
        | false =>
          rw [c6] at hi
          have HB := Lib.hid (HF.out.trans (fin_bad r 2 n p (.inr (.inr (.inr c6)))))
          clear c1 c5 c6 k2
          go_wp2_with fail
          refine (t6 _).mono ?_
          rintro e w' ⟨rfl, rfl⟩
          go_wp2_with fail
          refine (hn _).mono ?_
          rintro e w' ⟨rfl, rfl⟩
          go_wp2_with fail
          refine hi.mono ?_
          rintro e w' ⟨rfl, rfl⟩
          go_wp2
          go_ret2
          exact RQ.mk HB.out B1
        | true =>
          rw [c6] at hi
          have HB := Lib.hid (HF.out.trans (fin_good r 2 n p c1 G59.out c5 c6))
          clear c1 c5 c6 k2
          go_wp2_with fail
          refine (t6 _).mono ?_
          rintro e w' ⟨rfl, rfl⟩
          go_wp2_with fail
          refine (hn _).mono ?_
          rintro e w' ⟨rfl, rfl⟩
          go_wp2_with fail
          refine hi.mono ?_
          rintro e w' ⟨rfl, rfl⟩
          go_wp2
          go_ret2
          exact RQ.mkI HB.out (by have := HM.out; omega) B1
      | false =>
        cases q7 with
        | true =>
          have hl := L7.out rfl
          have hn := fun W => rnumber16_any (s.extract 3 s.size) 6 W (by simp; omega) (by omega)
          unfold NumOut at hn
          rw [drop_extract, HR.out, List.drop_succ_cons] at hn
          have hv := valD_len 16 6 (r.drop 2) (by omega) (by omega) (by omega)
          have hk := digs_length 16 6 (r.drop 2)
          rw [List.length_drop] at hk
          have HF := Lib.hid (show q0 = fin r 2 (digs 16 6 (r.drop 2)).length (valD 16 (digs 16 6 (r.drop 2))) by rw [HQ.out]; rfl)
          generalize valD 16 (digs 16 6 (r.drop 2)) = p at *
          generalize (digs 16 6 (r.drop 2)).length = n at *
          obtain ⟨v0, v1⟩ := hv
          obtain ⟨k1, k2⟩ := hk
          by_cases c1 : n = 0
          · have HB := Lib.hid (HF.out.trans (fin_bad r 2 n p (.inl c1)))
            have b1 : ((n : Int) == 0) = true := by rw [beq_iff_eq]; omega
            clear c1
            go_wp2_with fail
            refine (t6 _).mono ?_
            rintro e w' ⟨rfl, rfl⟩
            go_wp2_with fail
            refine (t7 _).mono ?_
            rintro e w' ⟨rfl, rfl⟩
            go_wp2_with fail
            refine (hn _).mono ?_
            rintro e w' ⟨rfl, rfl⟩
            go_wp2
            go_ret2
            exact RQ.mk HB.out B1
          have b1 : ((n : Int) == 0) = false := by rw [beq_eq_false_iff_ne]; omega
          obtain ⟨m, hm⟩ : ∃ m : Nat, m = 3 + n := ⟨_, rfl⟩
          have hix : (3 : Int) + (n : Int) = (m : Int) := by omega
          have HM := Lib.hid hm
          have m1 : 3 + n ≤ m := by omega
          have m2 : m ≤ 3 + n := by omega
          have HG := Lib.hid (show r[2 + n]? = s.data.toList[m]? by rw [HR.out, hm, show 3 + n = (2 + n) + 1 by omega, List.getElem?_cons_succ])
          clear hm
          by_cases c2 : s.size ≤ m
          · have HB := Lib.hid (HF.out.trans (fin_bad r 2 n p (.inr (.inl (by rw [HG.out, List.getElem?_eq_none (by rw [← size_list]; exact c2)]; simp)))))
            clear c1 k2
            go_wp2_with fail
            refine (t6 _).mono ?_
            rintro e w' ⟨rfl, rfl⟩
            go_wp2_with fail
            refine (t7 _).mono ?_
            rintro e w' ⟨rfl, rfl⟩
            go_wp2_with fail
            refine (hn _).mono ?_
            rintro e w' ⟨rfl, rfl⟩
            go_wp2
            go_ret2
            exact RQ.mk HB.out B1
          have c3 : m < s.size := by omega
          clear c2
          by_cases c4 : s[m] ≠ 59
          · have HB := Lib.hid (HF.out.trans (fin_bad r 2 n p (.inr (.inl (by rw [HG.out, getE? s m c3]; simpa using c4)))))
            have b2 : ((s[m].toNat : Int) != 59) = true := by rw [bne_iff_ne]; intro h; exact u8_ne _ _ c4 (by show _ = 59; omega)
            clear c1 c4 k2
            go_wp2_with fail
            refine (t6 _).mono ?_
            rintro e w' ⟨rfl, rfl⟩
            go_wp2_with fail
            refine (t7 _).mono ?_
            rintro e w' ⟨rfl, rfl⟩
            go_wp2_with fail
            refine (hn _).mono ?_
            rintro e w' ⟨rfl, rfl⟩
            go_wp2
            go_ret2
            exact RQ.mk HB.out B1
          have c4 := Decidable.not_not.1 c4
          have b2 : ((s[m].toNat : Int) != 59) = false := by rw [c4]; decide
          have G59 := Lib.hid (show r[2 + n]? = some 59 by rw [HG.out, getE? s m c3, c4])
          clear c4
          by_cases c5 : p = 0
          · have HB := Lib.hid (HF.out.trans (fin_bad r 2 n p (.inr (.inr (.inl c5)))))
            have b3 : (p == 0) = true := by rw [beq_iff_eq]; exact c5
            clear c1 c5 k2
            go_wp2_with fail
            refine (t6 _).mono ?_
            rintro e w' ⟨rfl, rfl⟩
            go_wp2_with fail
            refine (t7 _).mono ?_
            rintro e w' ⟨rfl, rfl⟩
            go_wp2_with fail
            refine (hn _).mono ?_
            rintro e w' ⟨rfl, rfl⟩
            go_wp2
            go_ret2
            exact RQ.mk HB.out B1
          have b3 : (p == 0) = false := by rw [beq_eq_false_iff_ne]; exact c5
          have hi := is_any p (w.alloc (.cells #[.string ⟨#[38, 97, 109, 112, 59]⟩, .string ⟨#[38, 108, 116, 59]⟩, .string ⟨#[38, 103, 116, 59]⟩, .string ⟨#[38, 113, 117, 111, 116, 59]⟩, .string ⟨#[38, 97, 112, 111, 115, 59]⟩] 9))
          cases c6 : isPt p with
          | false =>
            rw [c6] at hi
            have HB := Lib.hid (HF.out.trans (fin_bad r 2 n p (.inr (.inr (.inr c6)))))
            clear c1 c5 c6 k2
            go_wp2_with fail
            refine (t6 _).mono ?_
            rintro e w' ⟨rfl, rfl⟩
            go_wp2_with fail
            refine (t7 _).mono ?_
            rintro e w' ⟨rfl, rfl⟩
            go_wp2_with fail
            refine (hn _).mono ?_
            rintro e w' ⟨rfl, rfl⟩
            go_wp2_with fail
            refine hi.mono ?_
            rintro e w' ⟨rfl, rfl⟩
            go_wp2
            go_ret2
            exact RQ.mk HB.out B1
          | true =>
            rw [c6] at hi
            have HB := Lib.hid (HF.out.trans (fin_good r 2 n p c1 G59.out c5 c6))
            clear c1 c5 c6 k2
            go_wp2_with fail
            refine (t6 _).mono ?_
            rintro e w' ⟨rfl, rfl⟩
            go_wp2_with fail
            refine (t7 _).mono ?_
            rintro e w' ⟨rfl, rfl⟩
            go_wp2_with fail
            refine (hn _).mono ?_
            rintro e w' ⟨rfl, rfl⟩
            go_wp2_with fail
            refine hi.mono ?_
            rintro e w' ⟨rfl, rfl⟩
            go_wp2
            go_ret2
            exact RQ.mkI HB.out (by have := HM.out; omega) B1
        | false =>
          cases q8 with
          | true =>
            have hl := L8.out rfl
            have hn := fun W => rnumber10_any (s.extract 2 s.size) 7 W (by simp; omega) (by omega)
            unfold NumOut at hn
            rw [drop_extract, HR.out, List.drop_succ_cons] at hn
            have hv := valD_len 10 7 (r.drop 1) (by omega) (by omega) (by omega)
            have hk := digs_length 10 7 (r.drop 1)
            rw [List.length_drop] at hk
            have HF := Lib.hid (show q0 = fin r 1 (digs 10 7 (r.drop 1)).length (valD 10 (digs 10 7 (r.drop 1))) by rw [HQ.out]; rfl)
            generalize valD 10 (digs 10 7 (r.drop 1)) = p at *
            generalize (digs 10 7 (r.drop 1)).length = n at *
            obtain ⟨v0, v1⟩ := hv
            obtain ⟨k1, k2⟩ := hk
            by_cases c1 : n = 0
            · have HB := Lib.hid (HF.out.trans (fin_bad r 1 n p (.inl c1)))
              have b1 : ((n : Int) == 0) = true := by rw [beq_iff_eq]; omega
              clear c1
              go_wp2_with fail
              refine (t6 _).mono ?_
              rintro e w' ⟨rfl, rfl⟩
              go_wp2_with fail
              refine (t7 _).mono ?_
              rintro e w' ⟨rfl, rfl⟩
              go_wp2_with fail
              refine (t8 _).mono ?_
              rintro e w' ⟨rfl, rfl⟩
              go_wp2_with fail
              refine (hn _).mono ?_
              rintro e w' ⟨rfl, rfl⟩
              go_wp2
              go_ret2
              exact RQ.mk HB.out B1
            have b1 : ((n : Int) == 0) = false := by rw [beq_eq_false_iff_ne]; omega
            obtain ⟨m, hm⟩ : ∃ m : Nat, m = 2 + n := ⟨_, rfl⟩
            have hix : (2 : Int) + (n : Int) = (m : Int) := by omega
            have HM := Lib.hid hm
            have m1 : 2 + n ≤ m := by omega
            have m2 : m ≤ 2 + n := by omega
            have HG := Lib.hid (show r[1 + n]? = s.data.toList[m]? by rw [HR.out, hm, show 2 + n = (1 + n) + 1 by omega, List.getElem?_cons_succ])
            clear hm
            by_cases c2 : s.size ≤ m
            · have HB := Lib.hid (HF.out.trans (fin_bad r 1 n p (.inr (.inl (by rw [HG.out, List.getElem?_eq_none (by rw [← size_list]; exact c2)]; simp)))))
              clear c1 k2
              go_wp2_with fail
              refine (t6 _).mono ?_
              rintro e w' ⟨rfl, rfl⟩
              go_wp2_with fail
              refine (t7 _).mono ?_
              rintro e w' ⟨rfl, rfl⟩
              go_wp2_with fail
              refine (t8 _).mono ?_
              rintro e w' ⟨rfl, rfl⟩
              go_wp2_with fail
              refine (hn _).mono ?_
              rintro e w' ⟨rfl, rfl⟩
              go_wp2
              go_ret2
              exact RQ.mk HB.out B1
            have c3 : m < s.size := by omega
            clear c2
            by_cases c4 : s[m] ≠ 59
            · have HB := Lib.hid (HF.out.trans (fin_bad r 1 n p (.inr (.inl (by rw [HG.out, getE? s m c3]; simpa using c4)))))
              have b2 : ((s[m].toNat : Int) != 59) = true := by rw [bne_iff_ne]; intro h; exact u8_ne _ _ c4 (by show _ = 59; omega)
              clear c1 c4 k2
              go_wp2_with fail
              refine (t6 _).mono ?_
              rintro e w' ⟨rfl, rfl⟩
              go_wp2_with fail
              refine (t7 _).mono ?_
              rintro e w' ⟨rfl, rfl⟩
              go_wp2_with fail
              refine (t8 _).mono ?_
              rintro e w' ⟨rfl, rfl⟩
              go_wp2_with fail
              refine (hn _).mono ?_
              rintro e w' ⟨rfl, rfl⟩
              go_wp2
              go_ret2
              exact RQ.mk HB.out B1
            have c4 := Decidable.not_not.1 c4
            have b2 : ((s[m].toNat : Int) != 59) = false := by rw [c4]; decide
            have G59 := Lib.hid (show r[1 + n]? = some 59 by rw [HG.out, getE? s m c3, c4])
            clear c4
            by_cases c5 : p = 0
            · have HB := Lib.hid (HF.out.trans (fin_bad r 1 n p (.inr (.inr (.inl c5)))))
              have b3 : (p == 0) = true := by rw [beq_iff_eq]; exact c5
              clear c1 c5 k2
              go_wp2_with fail
              refine (t6 _).mono ?_
              rintro e w' ⟨rfl, rfl⟩
              go_wp2_with fail
              refine (t7 _).mono ?_
              rintro e w' ⟨rfl, rfl⟩
              go_wp2_with fail
              refine (t8 _).mono ?_
              rintro e w' ⟨rfl, rfl⟩
              go_wp2_with fail
              refine (hn _).mono ?_
              rintro e w' ⟨rfl, rfl⟩
              go_wp2
              go_ret2
              exact RQ.mk HB.out B1
            have b3 : (p == 0) = false := by rw [beq_eq_false_iff_ne]; exact c5
            have hi := is_any p (w.alloc (.cells #[.string ⟨#[38, 97, 109, 112, 59]⟩, .string ⟨#[38, 108, 116, 59]⟩, .string ⟨#[38, 103, 116, 59]⟩, .string ⟨#[38, 113, 117, 111, 116, 59]⟩, .string ⟨#[38, 97, 112, 111, 115, 59]⟩] 9))
            cases c6 : isPt p with
            | false =>
              rw [c6] at hi
              have HB := Lib.hid (HF.out.trans (fin_bad r 1 n p (.inr (.inr (.inr c6)))))
              clear c1 c5 c6 k2
              go_wp2_with fail
              refine (t6 _).mono ?_
              rintro e w' ⟨rfl, rfl⟩
              go_wp2_with fail
              refine (t7 _).mono ?_
              rintro e w' ⟨rfl, rfl⟩
              go_wp2_with fail
              refine (t8 _).mono ?_
              rintro e w' ⟨rfl, rfl⟩
              go_wp2_with fail
              refine (hn _).mono ?_
              rintro e w' ⟨rfl, rfl⟩
              go_wp2_with fail
              refine hi.mono ?_
              rintro e w' ⟨rfl, rfl⟩
              go_wp2
              go_ret2
              exact RQ.mk HB.out B1
            | true =>
              rw [c6] at hi
              have HB := Lib.hid (HF.out.trans (fin_good r 1 n p c1 G59.out c5 c6))
              clear c1 c5 c6 k2
              go_wp2_with fail
              refine (t6 _).mono ?_
              rintro e w' ⟨rfl, rfl⟩
              go_wp2_with fail
              refine (t7 _).mono ?_
              rintro e w' ⟨rfl, rfl⟩
              go_wp2_with fail
              refine (t8 _).mono ?_
              rintro e w' ⟨rfl, rfl⟩
              go_wp2_with fail
              refine (hn _).mono ?_
              rintro e w' ⟨rfl, rfl⟩
              go_wp2_with fail
              refine hi.mono ?_
              rintro e w' ⟨rfl, rfl⟩
              go_wp2
              go_ret2
              exact RQ.mkI HB.out (by have := HM.out; omega) B1
          | false =>
            have HB := Lib.hid (show q0 = (-1, 0) by rw [HQ.out]; rfl)
            go_wp2_with fail
            refine (t6 _).mono ?_
            rintro e w' ⟨rfl, rfl⟩
            go_wp2_with fail
            refine (t7 _).mono ?_
            rintro e w' ⟨rfl, rfl⟩
            go_wp2_with fail
            refine (t8 _).mono ?_
            rintro e w' ⟨rfl, rfl⟩
            go_wp2
            go_ret2
            exact RQ.mk HB.out B1
end Go.Proofs.YtklcjimmbkpbdaaGreatDoor
namespace Go.Proofs.YtklcjimmbkpbdaaGreatDoor
open Go.RowKit
open Go.Lib

/-- A slice of the call's own that holds these bytes. -/
def OwnB (w : World) (base : Nat) (v : Value) (bs : List UInt8) : Prop := w.ownsRow base 5 1 v bs.length (byteCells bs)
theorem OwnB.below {w w' : World} {base : Nat} {v : Value} {bs : List UInt8} (h : OwnB w base v bs) (hb : Below w.heap.size w w') : OwnB w' base v bs := own_below h hb
theorem OwnB.conv {w : World} {base : Nat} {v : Value} {bs : List UInt8} (h : OwnB w base v bs) : (convert 22 9 v).run Tryz.prog w = .ok (.string ⟨bs.toArray⟩) w := conv_own h
theorem ownB_nil (w : World) (base : Nat) : OwnB w base (.slice none 0 0) [] := World.ownsRow_nil _ _ _ _
theorem oneCell_bytes (l : List UInt8) : ∀ u ∈ byteCells l, u.oneCell' = true := by
  intro u hu
  unfold byteCells at hu
  obtain ⟨x, _, rfl⟩ := List.mem_map.1 hu
  rfl
/-- Some bytes more behind a list of the call's own. -/
theorem appB {ops : Array Oper} {rest : List Oper} {o : Oper} {a : Act} {Q : Exit → Act → World → Prop} (hgd : o.guard = none) (s x : Operand)
    (ho : o.op = .call { callee := .builtin .append, args := #[s, x], argTypes := #[22, 22] }) (w w0 : World) (B base : Nat) (v : Value) (bs l : List UInt8) (cs : Array Value) (n : Nat) (hcs : cs = (byteCells l).toArray) (hn : l.length = n)
    (hs : a.eval s = v) (hown : OwnB w base v bs) (hx : a.eval x = .slice (some ⟨w.heap.size, 0, none⟩) n n) (hlen : bs.length + n ≤ 10000000) (hbase : base ≤ w.heap.size) (hB : B ≤ base) (hb : Below B w0 w)
    (h : ∀ v' w', OwnB w' base v' (bs ++ l) → Below B w0 w' → wpList Tryz.prog ops Q rest (a.put o.dst v') w') :
    wpList Tryz.prog ops Q (o :: rest) a (w.alloc (.cells cs 5)) := by
  subst hcs
  obtain ⟨i0, hi, hz0, hz1, hz2⟩ := info_parts Tryz.infoB
  have hl : (byteCells l).length = n := by rw [Lib.byteCells_length]; exact hn
  refine wpList_append_own _ hgd s x 22 ho base 5 i0 (.int .u8 0) 1 1 Tryz.underlying22 hi hz0 hz1 hz2 rfl (by decide) v bs.length _ hs (World.ownsRow.alloc hown _) ⟨w.heap.size, 0, none⟩ n n (byteCells l) hx (by rw [hl, Nat.mul_one]) (c1_many w (byteCells l) 5) (oneCell_bytes l) (by unfold maxLen; omega) (by omega) (by simp; omega) ?_
  intro v' w' hown' hgrow _
  refine h v' w' ?_ ?_
  · unfold OwnB
    rw [byteCells_append, List.length_append, hn]
    exact hown'
  · refine (hb.alloc (by omega) _).grown hgrow (by simp; omega) (fun k hk => ?_)
    have := (World.ownsRow.lt hown k hk).1
    omega
theorem runeCells_eq (p : Int) : runeCells p = byteCells (encodeRune p) := (byteCells_encodeRune p).symm
theorem drop_at (s : ByteArray) (k : Nat) (h : k < s.size) : s.data.toList.drop k = s[k] :: s.data.toList.drop (k + 1) := List.drop_eq_getElem_cons (by simpa using h)
end Go.Proofs.YtklcjimmbkpbdaaGreatDoor
