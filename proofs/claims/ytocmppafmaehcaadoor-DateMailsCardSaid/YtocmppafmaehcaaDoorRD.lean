/-
  The walks of the document's digits and like of layer 3. Conditions: as each says.
-/
import Derived.Test.YtocmppafmaehcaaDoorRB
import Derived.Test.YtocmppafmaehcaaDoorDC
import Derived.Test.YtocmppafmaehcaaDoorDateZ
namespace Go.Proofs.YtocmppafmaehcaaDoor
open Go.RowKit
open Go.Lib

theorem digP_no {l : List UInt8} (h : l.all isDg = false) : digP l = -1 := by unfold digP; rw [if_neg (by simp [h])]
theorem digP_yes {l : List UInt8} (h : l.all isDg = true) : digP l = valG l := by unfold digP; rw [if_pos h]
set_option maxRecDepth 100000 in
set_option maxHeartbeats 1000000 in
theorem rdigits_any (s : ByteArray) (w : World) (hs : s.size ≤ 9) : Calls Tryd.prog 28 #[.string s] w fun e w' => e = .returned (.int .i64 (digP s.data.toList)) ∧ w = w' := by
  obtain ⟨v, hv⟩ : ∃ v, digP s.data.toList = v := ⟨_, rfl⟩
  rw [hv]
  have HV := Lib.hid hv
  clear hv
  go_enter Tryd.func28, Tryd.ntmps28
  go_wp2
  go_loop [3, 4] (fun n i => ∃ k : Nat, k ≤ s.size ∧ i = .int .i64 k ∧ n = .int .i64 (valG (s.data.toList.take k)) ∧ Hid ((s.data.toList.take k).all isDg = true)) (fun _ i => s.size - (RowKit.intOf i).toNat)
  case atStart => exact ⟨0, Nat.zero_le _, rfl, rfl, by show _ = _; rfl⟩
  case round =>
    obtain ⟨k, hk, rfl, rfl, ha⟩ := hrel
    have hv := valG_le (s.data.toList.take k) 9 (by rw [List.length_take]; omega) ha.out
    have hv2 : valG (s.data.toList.take k) ≤ 999999999 := hv.2
    have hv1 := hv.1
    clear hv
    by_cases hlt : k < s.size
    · have HT := Lib.hid (take_snoc s k hlt)
      have hb := UInt8.toNat_lt s[k]
      cases hd : isDg s[k] with
      | true =>
        have hy := isDg_yes hd
        have HN := Lib.hid (show valG (s.data.toList.take (k + 1)) = 10 * valG (s.data.toList.take k) + ((s[k].toNat : Int) - 48) by rw [HT.out, valG_snoc])
        have HA := Lib.hid (show (s.data.toList.take (k + 1)).all isDg = true by rw [HT.out, List.all_append, ha.out]; simpa using hd)
        have t1 : decide ((s[k].toNat : Int) < 48) = false := by simp; omega
        have t2 : decide (57 < (s[k].toNat : Int)) = false := by simp; omega
        generalize valG (s.data.toList.take k) = n at *
        clear hd
        go_wp2
        go_round
        case rel => exact ⟨k + 1, by omega, by go_num, by rw [HN.out], HA.out⟩
        case measure => simp [RowKit.intOf]; omega
      | false =>
        have hn := isDg_no hd
        have HR := Lib.hid (show digP s.data.toList = -1 by
          apply digP_no
          rw [← List.take_append_drop (k + 1) s.data.toList, List.all_append, HT.out, List.all_append]
          simp [hd])
        generalize valG (s.data.toList.take k) = n at *
        clear hd
        by_cases c1 : (s[k].toNat : Int) < 48
        · go_wp2
          go_ret
          exact ⟨ret_int (by rw [← HV.out, HR.out]), rfl⟩
        · have t1 : decide ((s[k].toNat : Int) < 48) = false := by simpa using c1
          have t2 : (57 : Int) < (s[k].toNat : Int) := by omega
          go_wp2
          go_ret
          exact ⟨ret_int (by rw [← HV.out, HR.out]), rfl⟩
    · have e : s.data.toList.take k = s.data.toList := List.take_of_length_le (by rw [← size_list]; omega)
      have HR := Lib.hid (show digP s.data.toList = valG (s.data.toList.take k) by rw [e]; exact digP_yes (e ▸ ha.out))
      generalize valG (s.data.toList.take k) = n at *
      clear e
      go_wp2
      go_ret
      exact ⟨ret_int (by rw [← HV.out, HR.out]), rfl⟩
theorem drewN_two (w : World) (a b : Nat) : (w.drewN a).drewN b = w.drewN (a + b) := by simp [World.drewN, Nat.add_assoc]
def BoolOut (v : Bool) (w : World) (e : Ending) (w' : World) : Prop := e = .returned (.bool v) ∧ ∃ n, w' = w.drewN n
theorem likeP_len : ∀ (s p : List UInt8), s.length ≠ p.length → likeP s p = false
  | [], [], h => absurd rfl h
  | [], _ :: _, _ => rfl
  | _ :: _, [], _ => rfl
  | a :: s, b :: p, h => by
    unfold likeP
    rw [likeP_len s p (by simpa using h)]
    simp
theorem drop_at (s : ByteArray) (k : Nat) (h : k < s.size) : s.data.toList.drop k = s[k] :: s.data.toList.drop (k + 1) := List.drop_eq_getElem_cons (by simpa using h)
set_option maxRecDepth 100000 in
set_option maxHeartbeats 4000000 in
theorem rlike_any (s p : ByteArray) (w : World) (hs : s.size ≤ 1000) (_hp : p.size ≤ 1000) : Calls Tryd.prog 27 #[.string s, .string p] w (BoolOut (likeP s.data.toList p.data.toList) w) := by
  obtain ⟨v, hv⟩ : ∃ v, likeP s.data.toList p.data.toList = v := ⟨_, rfl⟩
  rw [hv]
  by_cases hl : s.size = p.size
  · have HV := Lib.hid hv
    have t0 : ((s.size : Int) != (p.size : Int)) = false := by simp [hl]
    have hl1 : s.size ≤ p.size := by omega
    have hl2 : p.size ≤ s.size := by omega
    have HL := Lib.hid hl
    clear hv hl
    go_enter Tryd.func27, Tryd.ntmps27
    go_wp2
    go_loopw [5] (fun i wr => ∃ (k m : Nat), k ≤ s.size ∧ i = .int .i64 k ∧ wr = w.drewN m ∧ Hid (likeP (s.data.toList.drop k) (p.data.toList.drop k) = v)) (fun i _ => s.size - (RowKit.intOf i).toNat)
    case atStart => exact ⟨0, 0, Nat.zero_le _, rfl, rfl, HV.out⟩
    case round =>
      obtain ⟨k, m, hk, rfl, hwr, hac⟩ := hrel
      by_cases hlt : k < s.size
      · have hlp : k < p.size := by omega
        have hac2 := hac.out
        rw [drop_at s k hlt, drop_at p k hlp] at hac2
        change ((if p[k] = 57 then isDg s[k] else s[k] == p[k]) && likeP (s.data.toList.drop (k + 1)) (p.data.toList.drop (k + 1))) = v at hac2
        have hbs := UInt8.toNat_lt s[k]
        have hbp := UInt8.toNat_lt p[k]
        have HWR := Lib.hid hwr
        clear hwr t0
        by_cases c0 : p[k] = 57
        · rw [if_pos c0] at hac2
          have b1 : ((p[k].toNat : Int) == 57) = true := by rw [c0]; decide
          have b2 : ((p[k].toNat : Int) != 57) = false := by rw [c0]; decide
          cases hd : isDg s[k] with
          | true =>
            have hy := isDg_yes hd
            have t1 : decide ((s[k].toNat : Int) < 48) = false := by simp; omega
            have t2 : decide (57 < (s[k].toNat : Int)) = false := by simp; omega
            have HN := Lib.hid (show likeP (s.data.toList.drop (k + 1)) (p.data.toList.drop (k + 1)) = v by rw [hd] at hac2; simpa using hac2)
            clear hd hac hac2 c0
            go_wp2
            go_quiet (fail)
            go_wp2
            go_roundw
            case rel => exact ⟨k + 1, m + nq, by omega, by go_num, by rw [HWR.out, drewN_two], HN.out⟩
            case measure => simp [RowKit.intOf]; omega
          | false =>
            have hn := isDg_no hd
            have HF := Lib.hid (show false = v by rw [hd] at hac2; simpa using hac2)
            clear hd hac hac2 c0
            by_cases c1 : (s[k].toNat : Int) < 48
            · have t1 : decide ((s[k].toNat : Int) < 48) = true := by simpa using c1
              go_wp2
              go_quiet (fail)
              go_wp2
              go_ret
              exact ⟨by rw [← HF.out]; rfl, m + nq, by rw [HWR.out, drewN_two]⟩
            · have t1 : decide ((s[k].toNat : Int) < 48) = false := by simpa using c1
              have t2 : decide (57 < (s[k].toNat : Int)) = true := by simp; omega
              go_wp2
              go_quiet (fail)
              go_wp2
              go_ret
              exact ⟨by rw [← HF.out]; rfl, m + nq, by rw [HWR.out, drewN_two]⟩
        · rw [if_neg c0] at hac2
          have cn : p[k].toNat ≠ 57 := fun e => c0 (UInt8.toNat_inj.1 e)
          have b1 : ((p[k].toNat : Int) == 57) = false := by simp; omega
          have b2 : ((p[k].toNat : Int) != 57) = true := by simp; omega
          by_cases c1 : s[k] = p[k]
          · have t1 : ((s[k].toNat : Int) != (p[k].toNat : Int)) = false := by rw [c1]; simp
            have HN := Lib.hid (show likeP (s.data.toList.drop (k + 1)) (p.data.toList.drop (k + 1)) = v by rw [c1] at hac2; simpa using hac2)
            clear hac hac2 c0 c1 cn
            go_wp2
            go_quiet (fail)
            go_wp2
            go_roundw
            case rel => exact ⟨k + 1, m + nq, by omega, by go_num, by rw [HWR.out, drewN_two], HN.out⟩
            case measure => simp [RowKit.intOf]; omega
          · have cm : s[k].toNat ≠ p[k].toNat := fun e => c1 (UInt8.toNat_inj.1 e)
            have t1 : ((s[k].toNat : Int) != (p[k].toNat : Int)) = true := by simp; omega
            have HF := Lib.hid (show false = v by rw [show (s[k] == p[k]) = false by simpa using c1] at hac2; simpa using hac2)
            clear hac hac2 c0 c1 cn cm
            go_wp2
            go_quiet (fail)
            go_wp2
            go_ret
            exact ⟨by rw [← HF.out]; rfl, m + nq, by rw [HWR.out, drewN_two]⟩
      · have hx := hac.out
        rw [List.drop_eq_nil_of_le (by rw [← size_list]; omega), List.drop_eq_nil_of_le (by rw [← size_list]; omega)] at hx
        have HF := Lib.hid (show true = v from hx)
        have HWR := Lib.hid hwr
        clear hwr hx hac
        go_wp2
        go_ret
        exact ⟨by rw [← HF.out]; rfl, m, HWR.out⟩
  · rw [likeP_len _ _ (by rw [← size_list, ← size_list]; exact hl)] at hv
    subst hv
    have t0 : ((s.size : Int) != (p.size : Int)) = true := by simp; omega
    clear hl
    go_enter Tryd.func27, Tryd.ntmps27
    go_wp2
    go_ret
    exact ⟨rfl, 0, rfl⟩
end Go.Proofs.YtocmppafmaehcaaDoor
