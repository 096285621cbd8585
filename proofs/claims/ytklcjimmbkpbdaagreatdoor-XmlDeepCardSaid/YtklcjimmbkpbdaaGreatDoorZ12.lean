/-
  The program's package xml: bytes of names, names. No conditions.
-/
import Derived.Test.YtklcjimmbkpbdaaGreatDoorZ07
import Derived.Test.YtklcjimmbkpbdaaGreatDoorZ05
import Derived.Test.YtklcjimmbkpbdaaGreatDoorZ10
import Derived.Test.YtklcjimmbkpbdaaGreatDoorZ11
import Derived.Test.YtklcjimmbkpbdaaGreatDoorZ02
namespace Go.Proofs.YtklcjimmbkpbdaaGreatDoor
open Go.RowKit
open Go.Lib
set_option maxRecDepth 100000 in
theorem begins_any (c : UInt8) (w : World) : Calls Tryz.prog 129 #[.int .u8 c.toNat] w fun e w' => e = .returned (.bool (begB c)) ∧ w = w' := by
 have hc := UInt8.toNat_lt c
 unfold begB
 go_enter Tryz.func129, Tryz.ntmps129
 go_wp2
 all_goals (go_ret; refine ⟨ret_b6 ?_, rfl⟩)
 all_goals (rw [Bool.eq_iff_iff]; simp; omega)
set_option maxRecDepth 100000 in
theorem goes_any (c : UInt8) (w : World) : Calls Tryz.prog 130 #[.int .u8 c.toNat] w fun e w' => e = .returned (.bool (goB c)) ∧ w = w' := by
 have hc := UInt8.toNat_lt c
 unfold goB
 have HB := hid (fun W => begins_any c W)
 cases hb : begB c with
 | true =>
  rw [hb] at HB
  clear hb
  go_enter Tryz.func130, Tryz.ntmps130
  go_wp2_with (go_at_call 129; (with_reducible refine (HB.out _).mono ?_); rintro e w1 ⟨rfl, rfl⟩)
  go_ret
  exact ⟨rfl, rfl⟩
 | false =>
  rw [hb] at HB
  clear hb
  go_enter Tryz.func130, Tryz.ntmps130
  go_wp2_with (go_at_call 129; (with_reducible refine (HB.out _).mono ?_); rintro e w1 ⟨rfl, rfl⟩)
  all_goals (go_ret; refine ⟨ret_b6 ?_, rfl⟩)
  all_goals (rw [Bool.eq_iff_iff]; simp; omega)
theorem bs_toList (l : Bt) : (bs l).toList = l := by rw [Lib.toList_data, bs_list]
theorem bs_inj {a b : Bt} (h : bs a = bs b) : a = b := by rw [← bs_list a, h, bs_list]
theorem take_while_stop {p : UInt8 → Bool} : ∀ (l : Bt) (k : Nat) (h : k < l.length), (l.take k).all p = true → p l[k] = false → (l.takeWhile p).length = k
 | c :: l, 0, _, _, hp => by rw [List.takeWhile_cons_of_neg (by simpa using hp)]; rfl
 | c :: l, k + 1, h, ha, hp => by
  rw [List.take_succ_cons, List.all_cons, Bool.and_eq_true] at ha
  rw [List.takeWhile_cons_of_pos ha.1, List.length_cons, take_while_stop l k (by simpa using h) ha.2 (by simpa using hp)]
theorem byte_run8 (s : Bt) (k : Nat) (z : Int) (h : k < s.length) (hz : (s[k].toNat : Int) = z) (W : World) : (Instr.index 9 (.string (bs s)) (.int .i64 k)).run Tryz.prog W = .ok (.int .u8 z) W := by
 subst hz
 have hk : k < (bs s).size := by rw [bs_size]; exact h
 have h2 := run_index_string (P := Tryz.prog) W 9 (bs s) .i64 (k : Int) Tryz.underlying9
 rw [dif_pos ⟨by omega, by omega⟩] at h2
 have e : (bs s)[((k : Int)).toNat]'(by omega) = s[k] := by
  show (bs s).data[((k : Int)).toNat]'_ = s[k]
  simp only [bs]
  rfl
 rw [e] at h2
 exact h2
theorem take_snoc8 {α : Type} (l : List α) (k : Nat) (h : k < l.length) : l.take (k + 1) = l.take k ++ [l[k]] := List.take_succ_eq_append_getElem h
set_option maxRecDepth 100000 in
set_option maxHeartbeats 1000000 in
theorem width_any (s : Bt) (w : World) (hs : s.length ≤ 4000000000) : Calls Tryz.prog 110 #[.string (bs s)] w fun e w' => e = .returned (.int .i64 (nameW s)) ∧ w = w' := by
 cases s with
 | nil =>
  have hne : (bs ([] : Bt)).toList = [] := bs_toList []
  go_enter Tryz.func110, Tryz.ntmps110
  go_wp2
  go_ret
  exact ⟨rfl, rfl⟩
 | cons c r =>
  have hne : ¬ (bs (c :: r)).toList = [] := by rw [bs_toList]; exact List.cons_ne_nil _ _
  have hne2 : (bs (c :: r)).toList.isEmpty = false := by rw [bs_toList]; rfl
  have HX : Hid (∀ (k : Nat) (h : k < (c :: r).length) (W : World), (Instr.index 9 (.string (bs (c :: r))) (.int .i64 k)).run Tryz.prog W = .ok (.int .u8 (((c :: r)[k]'h).toNat : Int)) W) := hid (fun k h W => byte_run8 (c :: r) k _ h rfl W)
  have HZ : Hid ((bs (c :: r)).size = r.length + 1) := hid (by rw [bs_size]; rfl)
  have h0 : ∀ W : World, (Instr.index 9 (.string (bs (c :: r))) (.int .i64 0)).run Tryz.prog W = .ok (.int .u8 (c.toNat : Int)) W := fun W => HX.out 0 (Nat.zero_lt_succ _) W
  have HB := hid (fun W => begins_any c W)
  cases hb : begB c with
  | false =>
   have HW := hid (show nameW (c :: r) = 0 by simp only [nameW]; rw [if_neg (by rw [hb]; exact Bool.false_ne_true)])
   rw [hb] at HB
   clear hb
   generalize bs (c :: r) = S at *
   go_enter Tryz.func110, Tryz.ntmps110
   go_wp2_with (go_at_call 129; (with_reducible refine (HB.out _).mono ?_); rintro e w1 ⟨rfl, rfl⟩)
   go_ret
   exact ⟨ret_i6 (by rw [HW.out]; rfl), rfl⟩
  | true =>
   have HW := hid (show nameW (c :: r) = 1 + (r.takeWhile goB).length by simp only [nameW]; rw [if_pos hb])
   have HG0 := hid (show goB c = true by unfold goB; rw [hb]; rfl)
   rw [hb] at HB
   clear hb
   obtain ⟨n, hn⟩ : ∃ n, r.length + 1 = n := ⟨_, rfl⟩
   have hn9 : n ≤ 5000000000 := by simp only [List.length_cons] at hs; omega
   have HN : Hid ((c :: r).length = n) := hid (by rw [List.length_cons]; exact hn)
   rw [hn] at HZ
   clear hs hn
   generalize bs (c :: r) = S at *
   have hz : S.size = n := HZ.out
   go_enter Tryz.func110, Tryz.ntmps110
   go_wp2_with (go_at_call 129; (with_reducible refine (HB.out _).mono ?_); rintro e w1 ⟨rfl, rfl⟩)
   go_loop [14] (fun i => ∃ k : Nat, k ≤ n ∧ i = .int .i64 k ∧ Hid (((c :: r).take k).all goB = true)) (fun i => n - (RowKit.intOf i).toNat)
   case atStart => exact ⟨0, Nat.zero_le _, rfl, hid rfl⟩
   case round =>
    obtain ⟨k, hk, rfl, HA⟩ := hrel
    by_cases hlt : k < n
    ·have hkl : k < (c :: r).length := by rw [HN.out]; exact hlt
     have hx : ∀ W : World, (Instr.index 9 (.string S) (.int .i64 k)).run Tryz.prog W = .ok (.int .u8 (((c :: r)[k]'hkl).toNat : Int)) W := fun W => HX.out k hkl W
     have HT := hid (take_snoc8 (c :: r) k hkl)
     have HST := hid (take_while_stop (p := goB) (c :: r) k hkl)
     obtain ⟨d, hd⟩ : ∃ d, (c :: r)[k]'hkl = d := ⟨_, rfl⟩
     rw [hd] at hx HT HST
     have HGo := hid (fun W => goes_any d W)
     clear hd
     cases hg : goB d with
     | true =>
      have HGD := hid hg
      rw [hg] at HGo
      clear hg
      go_wp2_with (go_at_call 130; (with_reducible refine (HGo.out _).mono ?_); rintro e w1 ⟨rfl, rfl⟩)
      go_round
      case rel => exact ⟨k + 1, by omega, by go_num, hid (by rw [HT.out, List.all_append, HA.out]; simp [HGD.out])⟩
      case measure => simp [RowKit.intOf]; omega
     | false =>
      have HGD := hid hg
      rw [hg] at HGo
      clear hg
      go_wp2_with (go_at_call 130; (with_reducible refine (HGo.out _).mono ?_); rintro e w1 ⟨rfl, rfl⟩)
      go_ret
      refine ⟨ret_i6 ?_, rfl⟩
      have h1 := HST.out HA.out HGD.out
      rw [List.takeWhile_cons_of_pos HG0.out, List.length_cons] at h1
      rw [HW.out]
      omega
    ·obtain rfl : k = n := by omega
     go_wp2
     go_ret
     refine ⟨ret_i6 ?_, rfl⟩
     have h1 := HA.out
     rw [List.take_of_length_le (by rw [HN.out]; exact Nat.le_refl _), List.all_cons, Bool.and_eq_true] at h1
     have h2 := (while_app (p := goB) r [] h1.2 (.inl rfl)).1
     rw [List.append_nil] at h2
     have h3 := HN.out
     rw [List.length_cons] at h3
     rw [HW.out, h2]
     omega
theorem isName_w (s : Bt) : isNameL s = (!(s == []) && nameW s == s.length) := by
 cases s with
 | nil => rfl
 | cons c r =>
  unfold isNameL
  simp only [nameW]
  cases hb : begB c with
  | false => simp
  | true =>
   have : (r.all goB) = ((r.takeWhile goB).length == r.length) := by
    rw [Bool.eq_iff_iff, beq_iff_eq]
    constructor
    ·intro h
     have := (while_app (p := goB) r [] h (.inl rfl)).1
     rw [List.append_nil] at this
     rw [this]
    ·intro h
     have h2 : r.takeWhile goB = r := (List.takeWhile_prefix goB).eq_of_length h
     rw [← h2]
     exact List.all_takeWhile
   rw [this]
   simp only [if_pos, Bool.true_and, List.length_cons]
   rw [show ((c :: r : Bt) == []) = false from rfl, Bool.not_false, Bool.true_and, Bool.eq_iff_iff, beq_iff_eq, beq_iff_eq]
   omega
set_option maxRecDepth 100000 in
theorem isName_any (s : Bt) (w : World) (hs : s.length ≤ 4000000000) : Calls Tryz.prog 89 #[.string (bs s)] w fun e w' => e = .returned (.bool (isNameL s)) ∧ w = w' := by
 have HW := hid (fun W => width_any s W hs)
 have hn := nameW_le s
 cases s with
 | nil =>
  have hne : (bs ([] : Bt)).toList = [] := bs_toList []
  go_enter Tryz.func89, Tryz.ntmps89
  go_wp2
  go_ret
  exact ⟨rfl, rfl⟩
 | cons c r =>
  have hne : ¬ (bs (c :: r)).toList = [] := by rw [bs_toList]; exact List.cons_ne_nil _ _
  have hne2 : (bs (c :: r)).toList.isEmpty = false := by rw [bs_toList]; rfl
  have HE := hid (isName_w (c :: r))
  have HZ : Hid ((bs (c :: r)).size = (c :: r).length) := hid (bs_size _)
  generalize nameW (c :: r) = k at *
  generalize bs (c :: r) = S at *
  obtain ⟨n, hl⟩ : ∃ n, (c :: r).length = n := ⟨_, rfl⟩
  rw [hl] at HE HZ hn
  have hz : S.size = n := HZ.out
  clear hl hs
  go_enter Tryz.func89, Tryz.ntmps89
  go_wp2_with (go_at_call 110; (with_reducible refine (HW.out _).mono ?_); rintro e w1 ⟨rfl, rfl⟩)
  go_ret
  refine ⟨ret_b6 ?_, rfl⟩
  rw [HE.out, show ((c :: r : Bt) == []) = false from rfl, Bool.not_false, Bool.true_and, Bool.eq_iff_iff]
  simp []
  omega
end Go.Proofs.YtklcjimmbkpbdaaGreatDoor
