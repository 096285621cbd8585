/-
  Of the proofs of layer 7 (values of JSON): the parts JD JE JF. No conditions.
-/
import Derived.Test.YtchgelfomnbpaaaDoorZ05
import Derived.Deep.CutBlock
import Derived.Deep.DeepCutAuto
namespace Go.Proofs.YtchgelfomnbpaaaDoor
open Go.RowKit
open Go.Lib

theorem dg_stop : ∀ (t : Bt) (j : Nat), j ≤ t.length → (t.take j).all (isD 10) = true → (∀ h : j < t.length, isD 10 t[j] = false) → dgL t = j
  | [], j, hj, _, _ => by
    have : j = 0 := by simpa using hj
    subst this
    rfl
  | c :: r, 0, _, _, h => by
    have := h (by simp)
    unfold dgL
    rw [List.takeWhile_cons_of_neg (by simpa using this)]
    rfl
  | c :: r, j + 1, hj, ha, h => by
    rw [List.take_succ_cons, List.all_cons, Bool.and_eq_true] at ha
    have ih := dg_stop r j (by simpa using hj) ha.2 (fun h' => by have := h (by simpa using h'); simpa using this)
    unfold dgL at ih ⊢
    rw [List.takeWhile_cons_of_pos ha.1, List.length_cons, ih]
def digV (c : UInt8) : Int := if digN c < 10 then digN c else -1
theorem digV_yes {c : UInt8} (h : isD 10 c = true) : digV c = digN c ∧ 0 ≤ digN c ∧ digN c ≤ 9 := by
  simp [isD] at h
  unfold digV
  rw [if_pos h.2]
  exact ⟨rfl, h.1, by omega⟩
theorem digV_no {c : UInt8} (h : isD 10 c = false) : digV c = -1 := by
  unfold digV
  split
  · rename_i h2
    have hb := digN_bd c
    have : ¬ 0 ≤ digN c := fun h3 => by
      have : isD 10 c = true := by simp [isD, h2, h3]
      rw [this] at h; cases h
    omega
  · rfl
set_option maxRecDepth 100000 in
theorem rdig_any (c : UInt8) (w : World) : Calls Tryd.prog 64 #[.int .u8 c.toNat, .int .i64 10] w fun e w' => e = .returned (.int .i64 (digV c)) ∧ w = w' := by
  have hc : c.toNat < 256 := UInt8.toNat_lt c
  have fin : ∀ (x y : Int), digN c = x → (x < 10 ∧ y = x ∨ 10 ≤ x ∧ y = -1) → y = digV c := by
    intro x y h1 h2
    unfold digV
    rw [h1]
    rcases h2 with ⟨h2, h3⟩ | ⟨h2, h3⟩
    · rw [if_pos h2, h3]
    · rw [if_neg (by omega), h3]
  have FIN := Lib.hid fin
  clear fin
  by_cases a : 48 ≤ c.toNat ∧ c.toNat ≤ 57
  · have HD := Lib.hid (show digN c = (c.toNat : Int) - 48 by unfold digN; rw [if_pos a])
    obtain ⟨a1, a2⟩ := a
    go_enter Tryd.func64, Tryd.ntmps64
    go_wp2
    go_ret
    exact ⟨ret_i6 (FIN.out _ _ HD.out (by omega)), rfl⟩
  by_cases b : 97 ≤ c.toNat ∧ c.toNat ≤ 102
  · have HD := Lib.hid (show digN c = (c.toNat : Int) - 97 + 10 by unfold digN; rw [if_neg a, if_pos b]; omega)
    obtain ⟨b1, b2⟩ := b
    go_enter Tryd.func64, Tryd.ntmps64
    go_wp2
    go_ret
    exact ⟨ret_i6 (FIN.out _ _ HD.out (by omega)), rfl⟩
  by_cases d : 65 ≤ c.toNat ∧ c.toNat ≤ 70
  · have HD := Lib.hid (show digN c = (c.toNat : Int) - 65 + 10 by unfold digN; rw [if_neg a, if_neg b, if_pos d]; omega)
    obtain ⟨d1, d2⟩ := d
    go_enter Tryd.func64, Tryd.ntmps64
    go_wp2
    go_ret
    exact ⟨ret_i6 (FIN.out _ _ HD.out (by omega)), rfl⟩
  · have HD := Lib.hid (show digN c = -1 by unfold digN; rw [if_neg a, if_neg b, if_neg d])
    go_enter Tryd.func64, Tryd.ntmps64
    go_wp2
    all_goals first | (exfalso; omega) | (go_ret; exact ⟨ret_i6 (FIN.out _ _ HD.out (by omega)), rfl⟩)
set_option maxRecDepth 100000 in
set_option maxHeartbeats 1000000 in
theorem rnum_any (t : Bt) (M : Nat) (w : World) (hM : t.length ≤ M) (hM2 : M ≤ 1000000000) : Calls Tryd.prog 47 #[.string (bs t), .int .i64 10, .int .i64 M] w fun e w' => (∃ z, e = .returned (.tuple #[.int .i64 z, .int .i64 (dgL t)])) ∧ w = w' := by
  obtain ⟨n, hn⟩ : ∃ n, t.length = n := ⟨_, rfl⟩
  have hsz : (bs t).size = n := by rw [bs_size, hn]
  have HN := Lib.hid hn
  rw [hn] at hM
  have HST := Lib.hid (dg_stop t)
  clear hn
  go_enter Tryd.func47, Tryd.ntmps47
  go_wp2
  go_loopw [8, 9] (fun v i wr => ∃ (z : Int) (j : Nat), j ≤ n ∧ v = .int .i64 z ∧ i = .int .i64 j ∧ Hid ((t.take j).all (isD 10) = true) ∧ wr = w) (fun _ i _ => n - (RowKit.intOf i).toNat)
  case atStart => exact ⟨0, 0, Nat.zero_le _, rfl, rfl, Lib.hid rfl, rfl⟩
  case round =>
    obtain ⟨z, j, hj, rfl, rfl, HA, rfl⟩ := hrel
    by_cases hjn : j < n
    · have hjt : j < t.length := by rw [HN.out]; exact hjn
      obtain ⟨c, hc⟩ : ∃ c, t[j] = c := ⟨_, rfl⟩
      obtain ⟨cz, hcz⟩ : ∃ z, (c.toNat : Int) = z := ⟨_, rfl⟩
      have hix := byte_run t j cz hjt (by rw [hc]; exact hcz)
      obtain ⟨dz, hdz⟩ : ∃ z, digV c = z := ⟨_, rfl⟩
      have HDG : Hid (∀ W, Calls Tryd.prog 64 #[.int .u8 cz, .int .i64 10] W fun e w' => e = .returned (.int .i64 dz) ∧ W = w') := Lib.hid (fun W => by
        rw [← hcz, ← hdz]
        exact rdig_any c W)
      have hjM : j < M := by omega
      have HC := Lib.hid hc
      by_cases hd : isD 10 c = true
      · obtain ⟨h1, h2, h3⟩ := digV_yes hd
        have hz0 : 0 ≤ dz := by rw [← hdz, h1]; exact h2
        have HA2 : Hid ((t.take (j + 1)).all (isD 10) = true) := Lib.hid (by
          rw [List.take_succ_eq_append_getElem hjt, List.all_append, HA.out, hc]
          simp [hd])
        clear hcz hdz hc h1 h2 h3 hd
        go_wp2_with (go_at_call 64; (with_reducible refine (HDG.out _).mono ?_); rintro e w1 ⟨rfl, rfl⟩)
        exact ⟨⟨_, j + 1, by omega, rfl, rfl, HA2, trivial⟩, by show n - ((j : Int) + 1).toNat < n - (j : Int).toNat; omega⟩
      · have hdf : isD 10 c = false := by simpa using hd
        have hz0 : dz = -1 := by rw [← hdz]; exact digV_no hdf
        subst hz0
        have hq := HST.out j (by rw [HN.out]; exact hj) HA.out (fun _ => by rw [HC.out]; exact hdf)
        have HQ := Lib.hid hq
        clear hcz hdz hc hd hdf hq
        go_wp2_with (go_at_call 64; (with_reducible refine (HDG.out _).mono ?_); rintro e w1 ⟨rfl, rfl⟩)
        go_ret2
        exact ⟨⟨z, by rw [HQ.out]; rfl⟩, rfl⟩
    · obtain rfl : j = n := by omega
      have hq := HST.out j (by rw [HN.out]; exact hj) HA.out (fun h => absurd h (by rw [HN.out]; exact Nat.lt_irrefl _))
      have HQ := Lib.hid hq
      clear hq
      go_wp2
      go_ret2
      exact ⟨⟨z, by rw [HQ.out]; rfl⟩, rfl⟩
end Go.Proofs.YtchgelfomnbpaaaDoor
namespace Go.Proofs.YtchgelfomnbpaaaDoor
open Go.RowKit
open Go.Lib

theorem slice_tail (t : Bt) (k : Nat) (z : Int) (hz : (k : Int) = z) (h : k ≤ t.length) (r : Bt) (hr : t.drop k = r) (W : World) : (Instr.slice 9 (.string (bs t)) (some (.int .i64 z)) none none).run Tryd.prog W = .ok (.string (bs r)) W := by
  subst hz hr
  have hsz := bs_size t
  refine (run_slice_string_l (P := Tryd.prog) W 9 (bs t) Tryd.underlying9 .i64 (k : Int) (by omega) (by omega)).trans ?_
  congr 2
  apply ByteArray.ext
  apply Array.ext'
  rw [show ((k : Int)).toNat = k from by omega]
  unfold bs
  simp [ByteArray.data_extract, ByteArray.size]
  exact List.take_of_length_le (by rw [List.length_drop]; exact Nat.le_refl _)
theorem ne_byte {c d : UInt8} (h : c ≠ d) : ((c.toNat : Int) == (d.toNat : Int)) = false := by
  rw [beq_eq_false_iff_ne]
  intro e
  have e2 : c.toNat = d.toNat := by omega
  exact h (UInt8.toNat_inj.1 e2)
theorem head_drop {t : Bt} {i : Nat} (h : i < t.length) : (t.drop i).head? = some t[i] := by
  rw [List.drop_eq_getElem_cons h]
  rfl
set_option maxRecDepth 100000 in
set_option maxHeartbeats 8000000 in
theorem rjnum_any (t : Bt) (w : World) (hs : t.length ≤ 1000000000) : Calls Tryd.prog 28 #[.string (bs t)] w fun e w' => e = .returned (.int .i64 (numLen t)) ∧ w = w' := by
  obtain ⟨n, hn⟩ : ∃ n, t.length = n := ⟨_, rfl⟩
  have hsz : (bs t).size = n := by rw [bs_size, hn]
  have HN := Lib.hid hn
  have hs2 : n ≤ 1000000000 := by rw [← hn]; exact hs
  have HNU : Hid (∀ i m W, i ≤ n → dgL (t.drop i) = m → Calls Tryd.prog 47 #[.string (bs (t.drop i)), .int .i64 10, .int .i64 n] W fun e w' => (∃ z, e = .returned (.tuple #[.int .i64 z, .int .i64 m])) ∧ W = w') := Lib.hid (fun i m W hi hm => by
    have := rnum_any (t.drop i) n W (by rw [List.length_drop]; omega) hs2
    rw [hm] at this
    exact this)
  have HDG : Hid (∀ i, i ≤ n → dgL (t.drop i) ≤ n - i) := Lib.hid (fun i hi => by
    have := dg_le (t.drop i)
    rw [List.length_drop, HN.out] at this
    exact this)
  obtain ⟨i, hi⟩ : ∃ i, signL t = i := ⟨_, rfl⟩
  obtain ⟨m, hm⟩ : ∃ m, dgL (t.drop i) = m := ⟨_, rfl⟩
  obtain ⟨ans, hans⟩ : ∃ a, numLen t = a := ⟨_, rfl⟩
  have HANS : Hid (ans = if m = 0 ∨ ((t.drop i).head? = some 48 ∧ 1 < m) then 0 else match fracL (t.drop (i + m)) with | none => 0 | some f => match expL (t.drop (i + m + f)) with | none => 0 | some e => i + m + f + e) := Lib.hid (by
    rw [← hans, ← hm, ← hi]
    rfl)
  rw [hans]
  have HI := Lib.hid hi
  have HM := Lib.hid hm
  clear hn hs hans hi hm
  obtain ⟨sb, hsb⟩ : ∃ b, decide (t.head? = some 45) = b := ⟨_, rfl⟩
  have hi1 : i = if sb then 1 else 0 := by
    rw [← HI.out, ← hsb]
    unfold signL
    by_cases h : t.head? = some 45
    · rw [if_pos h, decide_eq_true h]; rfl
    · rw [if_neg h, decide_eq_false h]; rfl
  have hin : i ≤ n := by
    rw [hi1]
    cases sb
    · exact Nat.zero_le _
    · have := of_decide_eq_true hsb
      cases t with
      | nil => cases this
      | cons c t => rw [← HN.out]; simp
  have HSB := Lib.hid hsb
  clear hsb
  go_enter Tryd.func28, Tryd.ntmps28
  go_upto_region 2 with fail
  go_cut [15] (fun v wx => v = .bool sb ∧ wx = w)
  case first =>
    by_cases h0 : 0 < n
    · have h0t : 0 < t.length := by rw [HN.out]; exact h0
      have hhd := head_drop h0t
      rw [List.drop_zero] at hhd
      by_cases hc : t[0] = 45
      · have hix : ∀ W, (Instr.index 9 (.string (bs t)) (.int .i64 0)).run Tryd.prog W = .ok (.int .u8 45) W := fun W => byte_run t 0 45 h0t (by rw [hc]; rfl) W
        have hb1 : sb = true := by rw [← HSB.out, hhd, hc]; rfl
        clear hc hhd
        subst hb1
        go_wp2
        go_meet
        case rel => exact ⟨rfl, rfl⟩
      · obtain ⟨z, hz⟩ : ∃ z, (t[0].toNat : Int) = z := ⟨_, rfl⟩
        have hix : ∀ W, (Instr.index 9 (.string (bs t)) (.int .i64 0)).run Tryd.prog W = .ok (.int .u8 z) W := fun W => byte_run t 0 z h0t hz W
        have e45 : (z == 45) = false := by rw [← hz]; exact ne_byte (d := 45) hc
        have hb1 : sb = false := by rw [← HSB.out, hhd]; exact decide_eq_false (fun e => hc (Option.some.inj e))
        clear hc hz hhd
        subst hb1
        go_wp2
        go_meet
        case rel => exact ⟨rfl, rfl⟩
    · obtain rfl : n = 0 := by omega
      have hb1 : sb = false := by
        rw [← HSB.out]
        have : t = [] := List.eq_nil_of_length_eq_zero HN.out
        rw [this]
        rfl
      subst hb1
      go_wp2
      go_meet
      case rel => exact ⟨rfl, rfl⟩
  case rest =>
    obtain ⟨rfl, rfl⟩ := hcut
    go_upto_if 15 with fail
    go_cut [3] (fun v wx => v = .int .i64 i ∧ wx = wc)
    case first =>
      cases sb
      · subst hi1
        go_wp2
        go_meet
        case rel => exact ⟨rfl, rfl⟩
      · subst hi1
        go_wp2
        go_meet
        case rel => exact ⟨rfl, rfl⟩
    case rest =>
      obtain ⟨rfl, hw⟩ := hcut
      subst hw
      clear hi1 HSB
      have hsl := slice_tail t i (i : Int) rfl (by rw [HN.out]; exact hin) _ rfl
      have HN1 : Hid (∀ W, Calls Tryd.prog 47 #[.string (bs (t.drop i)), .int .i64 10, .int .i64 n] W fun e w' => (∃ z, e = .returned (.tuple #[.int .i64 z, .int .i64 m])) ∧ W = w') := Lib.hid (fun W => HNU.out i m W hin HM.out)
      have hml : m ≤ n - i := by rw [← HM.out]; exact HDG.out i hin
      have i0' : (0 : Int) ≤ (i : Int) := by omega
      have i1' : (i : Int) ≤ (n : Int) := by omega
      obtain ⟨zb, hzb⟩ : ∃ b, decide (m = 0 ∨ ((t.drop i).head? = some 48 ∧ 1 < m)) = b := ⟨_, rfl⟩
      have HZB := Lib.hid hzb
      clear hzb
      go_upto_region 5 with (go_at_call 47; (with_reducible refine (HN1.out _).mono ?_); rintro e w1 ⟨⟨z1, rfl⟩, rfl⟩)
      clear hsl
      go_cut [38] (fun v wx => v = .bool zb ∧ wx = wc)
      case first =>
        by_cases hm0 : m = 0
        · have hb1 : zb = true := by rw [← HZB.out]; exact decide_eq_true (.inl hm0)
          subst hm0
          subst hb1
          go_wp2
          go_meet
          case rel => exact ⟨rfl, rfl⟩
        · have hil : i < n := by omega
          have hit : i < t.length := by rw [HN.out]; exact hil
          have hhd := head_drop hit
          have hmz : ((m : Int) == 0) = false := by rw [beq_eq_false_iff_ne]; omega
          have i2' : (i : Int) < (n : Int) := by omega
          by_cases hc : t[i] = 48
          · have hix := byte_run t i 48 hit (by rw [hc]; rfl)
            have hb1 : zb = decide (1 < m) := by rw [← HZB.out, hhd, hc]; simp [hm0]
            have hdm : decide ((1 : Int) < (m : Int)) = zb := by rw [hb1]; exact decide_eq_decide.2 (by omega)
            clear hc hhd hb1
            go_wp2
            go_meet
            case rel => exact ⟨by first | rfl | rw [hdm], rfl⟩
          · obtain ⟨z, hz⟩ : ∃ z, (t[i].toNat : Int) = z := ⟨_, rfl⟩
            have hix := byte_run t i z hit hz
            have e48 : (z == 48) = false := by rw [← hz]; exact ne_byte (d := 48) hc
            have hb1 : zb = false := by rw [← HZB.out, hhd]; exact decide_eq_false (fun e => e.elim hm0 (fun e => hc (Option.some.inj e.1)))
            clear hc hz hhd
            subst hb1
            go_wp2
            go_meet
            case rel => exact ⟨rfl, rfl⟩
      case rest =>
        obtain ⟨rfl, hw⟩ := hcut
        subst hw
        go_upto_if 38 with fail
        cases zb
        · have hno : ¬ (m = 0 ∨ ((t.drop i).head? = some 48 ∧ 1 < m)) := of_decide_eq_false HZB.out
          have HANS2 : Hid (ans = match fracL (t.drop (i + m)) with | none => 0 | some f => match expL (t.drop (i + m + f)) with | none => 0 | some e => i + m + f + e) := Lib.hid (by rw [HANS.out, if_neg hno])
          obtain ⟨j, hj⟩ : ∃ j, i + m = j := ⟨_, rfl⟩
          have hij : (i : Int) + (m : Int) = (j : Int) := by omega
          have hjn : j ≤ n := by omega
          rw [hj] at HANS2
          obtain ⟨fb, hfb⟩ : ∃ b, decide ((t.drop j).head? = some 46) = b := ⟨_, rfl⟩
          have HFB := Lib.hid hfb
          clear hno hfb hj HANS
          go_upto_region 8 with fail
          go_cut [51] (fun v wx => v = .bool fb ∧ wx = wc)
          case first =>
            by_cases hjl : j < n
            · have hjt : j < t.length := by rw [HN.out]; exact hjl
              have hhd := head_drop hjt
              have i2' : (j : Int) < (n : Int) := by omega
              have hdk : decide ((j : Int) < (n : Int)) = true := decide_eq_true i2'
              have i3' : (0 : Int) ≤ (j : Int) := by omega
              by_cases hc : t[j] = 46
              · have hix := byte_run t j 46 hjt (by rw [hc]; rfl)
                have hb1 : fb = true := by rw [← HFB.out, hhd, hc]; rfl
                clear hc hhd
                subst hb1
                go_wp2
                go_meet
                case rel => exact ⟨rfl, rfl⟩
              · obtain ⟨z, hz⟩ : ∃ z, (t[j].toNat : Int) = z := ⟨_, rfl⟩
                have hix := byte_run t j z hjt hz
                have e46 : (z == 46) = false := by rw [← hz]; exact ne_byte (d := 46) hc
                have hb1 : fb = false := by rw [← HFB.out, hhd]; exact decide_eq_false (fun e => hc (Option.some.inj e))
                clear hc hz hhd
                subst hb1
                go_wp2
                go_meet
                case rel => exact ⟨rfl, rfl⟩
            · have hjn2 : j = n := by omega
              have hdk : decide ((j : Int) < (n : Int)) = false := decide_eq_false (by omega)
              have hb1 : fb = false := by
                rw [← HFB.out, List.drop_of_length_le (by rw [HN.out]; omega)]
                rfl
              subst hb1
              go_wp2
              go_meet
              case rel => exact ⟨rfl, rfl⟩
          case rest =>
            obtain ⟨rfl, hw⟩ := hcut
            subst hw
            go_upto_if 51 with fail
            go_cut [3] (fun v wx => (∃ f : Nat, fracL (t.drop j) = some f ∧ v = .int .i64 ((j + f : Nat) : Int)) ∧ wx = wc)
            case first =>
              cases fb
              · have hf : fracL (t.drop j) = some 0 := by unfold fracL; rw [if_neg (of_decide_eq_false HFB.out)]
                go_wp2
                go_meet
                case rel => exact ⟨⟨0, hf, rfl⟩, rfl⟩
              · have h46 := of_decide_eq_true HFB.out
                have hjl : j < n := by
                  refine Nat.lt_of_not_le fun h => ?_
                  rw [List.drop_of_length_le (by rw [HN.out]; exact h)] at h46
                  cases h46
                obtain ⟨m2, hm2⟩ : ∃ m2, dgL (t.drop (j + 1)) = m2 := ⟨_, rfl⟩
                have hdd : (t.drop j).drop 1 = t.drop (j + 1) := by rw [List.drop_drop]
                have hfe : fracL (t.drop j) = if m2 = 0 then none else some (m2 + 1) := by
                  unfold fracL
                  rw [if_pos h46, hdd, hm2]
                have HFE := Lib.hid hfe
                have hsl := slice_tail t (j + 1) ((j : Int) + 1) (by omega) (by rw [HN.out]; omega) _ rfl
                have HN2 : Hid (∀ W, Calls Tryd.prog 47 #[.string (bs (t.drop (j + 1))), .int .i64 10, .int .i64 n] W fun e w' => (∃ z, e = .returned (.tuple #[.int .i64 z, .int .i64 m2])) ∧ W = w') := Lib.hid (fun W => HNU.out (j + 1) m2 W (by omega) hm2)
                have hm2l : m2 ≤ n - (j + 1) := by rw [← hm2]; exact HDG.out (j + 1) (by omega)
                have i2' : (0 : Int) ≤ (j : Int) + 1 := by omega
                have i3' : (j : Int) + 1 ≤ (n : Int) := by omega
                clear h46 hm2 hdd hfe
                by_cases hm0 : m2 = 0
                · have ha0 : ans = 0 := by rw [HANS2.out, HFE.out, if_pos hm0]
                  subst hm0
                  subst ha0
                  go_wp2_with (go_at_call 47; (with_reducible refine (HN2.out _).mono ?_); rintro e w1 ⟨⟨z2, rfl⟩, rfl⟩)
                  go_ret
                  exact ⟨rfl, rfl⟩
                · have hmz : ((m2 : Int) == 0) = false := by rw [beq_eq_false_iff_ne]; omega
                  have hf := HFE.out
                  rw [if_neg hm0] at hf
                  have HF := Lib.hid hf
                  clear hf
                  go_wp2_with (go_at_call 47; (with_reducible refine (HN2.out _).mono ?_); rintro e w1 ⟨⟨z2, rfl⟩, rfl⟩)
                  go_meet
                  case rel => exact ⟨⟨m2 + 1, HF.out, by first | rfl | (congr 1; omega)⟩, rfl⟩
            case rest =>
              obtain ⟨⟨f, hf, rfl⟩, hw⟩ := hcut
              subst hw
              have hfl := frac_le hf
              rw [List.length_drop, HN.out] at hfl
              have HANS3 : Hid (ans = match expL (t.drop (j + f)) with | none => 0 | some e => j + f + e) := Lib.hid (by rw [HANS2.out, hf])
              obtain ⟨k, hk⟩ : ∃ k, j + f = k := ⟨_, rfl⟩
              have hkn : k ≤ n := by omega
              rw [hk] at HANS3
              obtain ⟨eb, heb⟩ : ∃ b, decide ((t.drop k).head? = some 101 ∨ (t.drop k).head? = some 69) = b := ⟨_, rfl⟩
              have HEB := Lib.hid heb
              rw [hk]
              clear heb hf hk HANS2 HFB hfl
              go_upto_region 13 with fail
              go_cut [83] (fun v wx => v = .bool eb ∧ wx = wc)
              case first =>
                by_cases hkl : k < n
                · have hkt : k < t.length := by rw [HN.out]; exact hkl
                  have hhd := head_drop hkt
                  have i2' : (k : Int) < (n : Int) := by omega
                  have hdk : decide ((k : Int) < (n : Int)) = true := decide_eq_true i2'
                  have i3' : (0 : Int) ≤ (k : Int) := by omega
                  by_cases hc : t[k] = 101
                  · have hix := byte_run t k 101 hkt (by rw [hc]; rfl)
                    have hb1 : eb = true := by rw [← HEB.out, hhd, hc]; rfl
                    clear hc hhd
                    subst hb1
                    go_wp2
                    go_meet
                    case rel => exact ⟨rfl, rfl⟩
                  · by_cases hc2 : t[k] = 69
                    · have hix := byte_run t k 69 hkt (by rw [hc2]; rfl)
                      have hb1 : eb = true := by rw [← HEB.out, hhd, hc2]; rfl
                      clear hc hc2 hhd
                      subst hb1
                      go_wp2
                      go_meet
                      case rel => exact ⟨rfl, rfl⟩
                    · obtain ⟨z, hz⟩ : ∃ z, (t[k].toNat : Int) = z := ⟨_, rfl⟩
                      have hix := byte_run t k z hkt hz
                      have e1 : (z == 101) = false := by rw [← hz]; exact ne_byte (d := 101) hc
                      have e2 : (z == 69) = false := by rw [← hz]; exact ne_byte (d := 69) hc2
                      have hb1 : eb = false := by rw [← HEB.out, hhd]; exact decide_eq_false (fun e => e.elim (fun e => hc (Option.some.inj e)) (fun e => hc2 (Option.some.inj e)))
                      clear hc hc2 hz hhd
                      subst hb1
                      go_wp2
                      go_meet
                      case rel => exact ⟨rfl, rfl⟩
                · have hkn2 : k = n := by omega
                  have hdk : decide ((k : Int) < (n : Int)) = false := decide_eq_false (by omega)
                  have hb1 : eb = false := by
                    rw [← HEB.out, List.drop_of_length_le (by rw [HN.out]; omega)]
                    rfl
                  subst hb1
                  go_wp2
                  go_meet
                  case rel => exact ⟨rfl, rfl⟩
              case rest =>
                obtain ⟨rfl, hw⟩ := hcut
                subst hw
                go_upto_if 83 with fail
                cases eb
                · have ha : ans = k := by
                    rw [HANS3.out]
                    have : expL (t.drop k) = some 0 := by unfold expL; rw [if_neg (of_decide_eq_false HEB.out)]
                    rw [this]
                    rfl
                  subst ha
                  go_wp2
                  go_ret
                  exact ⟨rfl, rfl⟩
                · have h101 := of_decide_eq_true HEB.out
                  have hkl : k < n := by
                    refine Nat.lt_of_not_le fun h => ?_
                    rw [List.drop_of_length_le (by rw [HN.out]; exact h)] at h101
                    rcases h101 with h | h <;> cases h
                  obtain ⟨g, hg⟩ : ∃ g, expSL (t.drop (k + 1)) = g := ⟨_, rfl⟩
                  have hdd : (t.drop k).drop 1 = t.drop (k + 1) := by rw [List.drop_drop]
                  obtain ⟨m3, hm3⟩ : ∃ m3, dgL (t.drop (k + 1 + g)) = m3 := ⟨_, rfl⟩
                  have hdd2 : (t.drop k).drop (1 + g) = t.drop (k + 1 + g) := by rw [List.drop_drop, Nat.add_assoc]
                  have HE : Hid (expL (t.drop k) = if m3 = 0 then none else some (1 + g + m3)) := Lib.hid (by
                    unfold expL
                    rw [if_pos h101, hdd, hg, hdd2, hm3])
                  have hgl : k + 1 + g ≤ n := by
                    have := exps_le (t.drop (k + 1))
                    rw [hg, List.length_drop, HN.out] at this
                    omega
                  have HG := Lib.hid hg
                  have HM3 := Lib.hid hm3
                  clear h101 hg hm3 hdd hdd2
                  obtain ⟨gb, hgb⟩ : ∃ b, decide ((t.drop (k + 1)).head? = some 43 ∨ (t.drop (k + 1)).head? = some 45) = b := ⟨_, rfl⟩
                  have HGB := Lib.hid hgb
                  have hg1 : g = if gb then 1 else 0 := by
                    rw [← HG.out, ← hgb]
                    unfold expSL
                    by_cases h : (t.drop (k + 1)).head? = some 43 ∨ (t.drop (k + 1)).head? = some 45
                    · rw [if_pos h, decide_eq_true h]; rfl
                    · rw [if_neg h, decide_eq_false h]; rfl
                  clear hgb
                  go_upto_region 15 with fail
                  go_cut [101] (fun v wx => v = .bool gb ∧ wx = wc)
                  case first =>
                    by_cases hkl2 : k + 1 < n
                    · have hkt : k + 1 < t.length := by rw [HN.out]; exact hkl2
                      have hhd := head_drop hkt
                      have i2' : (k : Int) + 1 < (n : Int) := by omega
                      have hdk : decide ((k : Int) + 1 < (n : Int)) = true := decide_eq_true i2'
                      have i3' : (0 : Int) ≤ (k : Int) + 1 := by omega
                      by_cases hc : t[k + 1] = 43
                      · have hix : ∀ W, (Instr.index 9 (.string (bs t)) (.int .i64 ((k : Int) + 1))).run Tryd.prog W = .ok (.int .u8 43) W := byte_run t (k + 1) 43 hkt (by rw [hc]; rfl)
                        have hb1 : gb = true := by rw [← HGB.out, hhd, hc]; rfl
                        clear hc hhd hg1
                        subst hb1
                        go_wp2
                        go_meet
                        case rel => exact ⟨rfl, rfl⟩
                      · by_cases hc2 : t[k + 1] = 45
                        · have hix : ∀ W, (Instr.index 9 (.string (bs t)) (.int .i64 ((k : Int) + 1))).run Tryd.prog W = .ok (.int .u8 45) W := byte_run t (k + 1) 45 hkt (by rw [hc2]; rfl)
                          have hb1 : gb = true := by rw [← HGB.out, hhd, hc2]; rfl
                          clear hc hc2 hhd hg1
                          subst hb1
                          go_wp2
                          go_meet
                          case rel => exact ⟨rfl, rfl⟩
                        · obtain ⟨z, hz⟩ : ∃ z, (t[k + 1].toNat : Int) = z := ⟨_, rfl⟩
                          have hix : ∀ W, (Instr.index 9 (.string (bs t)) (.int .i64 ((k : Int) + 1))).run Tryd.prog W = .ok (.int .u8 z) W := byte_run t (k + 1) z hkt hz
                          have e1 : (z == 43) = false := by rw [← hz]; exact ne_byte (d := 43) hc
                          have e2 : (z == 45) = false := by rw [← hz]; exact ne_byte (d := 45) hc2
                          have hb1 : gb = false := by rw [← HGB.out, hhd]; exact decide_eq_false (fun e => e.elim (fun e => hc (Option.some.inj e)) (fun e => hc2 (Option.some.inj e)))
                          clear hc hc2 hz hhd hg1
                          subst hb1
                          go_wp2
                          go_meet
                          case rel => exact ⟨rfl, rfl⟩
                    · have hdk : decide ((k : Int) + 1 < (n : Int)) = false := decide_eq_false (by omega)
                      have hb1 : gb = false := by
                        rw [← HGB.out, List.drop_of_length_le (by rw [HN.out]; omega)]
                        rfl
                      clear hg1
                      subst hb1
                      go_wp2
                      go_meet
                      case rel => exact ⟨rfl, rfl⟩
                  case rest =>
                    obtain ⟨rfl, hw⟩ := hcut
                    subst hw
                    go_upto_if 101 with fail
                    go_cut [3] (fun v wx => v = .int .i64 ((k + 1 + g : Nat) : Int) ∧ wx = wc)
                    case first =>
                      cases gb
                      · have hg0 : g = 0 := hg1
                        clear hg1
                        subst hg0
                        go_wp2
                        go_meet
                        case rel => exact ⟨rfl, rfl⟩
                      · have hg0 : g = 1 := hg1
                        clear hg1
                        subst hg0
                        go_wp2
                        go_meet
                        case rel => exact ⟨rfl, rfl⟩
                    case rest =>
                      obtain ⟨rfl, hw⟩ := hcut
                      subst hw
                      obtain ⟨q, hq⟩ : ∃ q, k + 1 + g = q := ⟨_, rfl⟩
                      rw [hq] at HM3 hgl ⊢
                      have hsl := slice_tail t q (q : Int) rfl (by rw [HN.out]; exact hgl) _ rfl
                      have HN3 : Hid (∀ W, Calls Tryd.prog 47 #[.string (bs (t.drop q)), .int .i64 10, .int .i64 n] W fun e w' => (∃ z, e = .returned (.tuple #[.int .i64 z, .int .i64 m3])) ∧ W = w') := Lib.hid (fun W => HNU.out q m3 W hgl HM3.out)
                      have hm3l : m3 ≤ n - q := by rw [← HM3.out]; exact HDG.out q hgl
                      have HQ := Lib.hid hq
                      have i2' : (0 : Int) ≤ (q : Int) := by omega
                      have i3' : (q : Int) ≤ (n : Int) := by omega
                      clear hg1 hq
                      by_cases hm0 : m3 = 0
                      · have ha0 : ans = 0 := by rw [HANS3.out, HE.out, if_pos hm0]
                        subst hm0
                        subst ha0
                        go_wp2_with (go_at_call 47; (with_reducible refine (HN3.out _).mono ?_); rintro e w1 ⟨⟨z2, rfl⟩, rfl⟩)
                        go_ret
                        exact ⟨rfl, rfl⟩
                      · have ha : ans = q + m3 := by
                          rw [HANS3.out, HE.out, if_neg hm0]
                          show k + (1 + g + m3) = q + m3
                          have := HQ.out
                          omega
                        have hmz : ((m3 : Int) == 0) = false := by rw [beq_eq_false_iff_ne]; omega
                        subst ha
                        go_wp2_with (go_at_call 47; (with_reducible refine (HN3.out _).mono ?_); rintro e w1 ⟨⟨z2, rfl⟩, rfl⟩)
                        go_ret
                        exact ⟨ret_i6 (by omega), rfl⟩
        · have ha0 : ans = 0 := by rw [HANS.out, if_pos (of_decide_eq_true HZB.out)]
          subst ha0
          go_wp2
          go_ret
          exact ⟨rfl, rfl⟩
end Go.Proofs.YtchgelfomnbpaaaDoor
namespace Go.Proofs.YtchgelfomnbpaaaDoor
open Go.RowKit
open Go.Lib

/-- What the document's Unjson answers of a text in quotes, by what stands between them. -/
def UnjHas : Prop := ∀ (a : Bt) (W : World), a.length ≤ 100000 → Calls Tryd.prog 57 #[.string (bs (34 :: a ++ [34]))] W fun e w' => e = .returned (.tuple #[.string (bs ((unjq a).getD [])), .bool (unjq a).isSome]) ∧ Below W.heap.size W w'
/-- Behind some bytes of a text in quotes. -/
def scanSt (u : Bt) (i : Nat) : Prop := if i ≤ u.length then scanQ u = (scanQ (u.drop i)).map fun x => (u.take i ++ x.1, x.2) else scanQ u = none
theorem scanSt_zero (u : Bt) : scanSt u 0 := by
  unfold scanSt
  rw [if_pos (Nat.zero_le _)]
  cases h : scanQ u with
  | none => simp [h]
  | some x => simp [h]
theorem scanSt_one {u : Bt} {i : Nat} (h : i < u.length) (hs : scanSt u i) (h1 : u[i] ≠ 34) (h2 : u[i] ≠ 92) : scanSt u (i + 1) := by
  unfold scanSt at *
  rw [if_pos (by omega)] at hs
  rw [if_pos (by omega), hs, List.drop_eq_getElem_cons h, scan_one h1 h2]
  cases scanQ (u.drop (i + 1)) with
  | none => rfl
  | some x =>
    show some (u.take i ++ u[i] :: x.1, x.2) = some (u.take (i + 1) ++ x.1, x.2)
    rw [List.take_succ_eq_append_getElem h, List.append_assoc]
    rfl
theorem scanSt_two {u : Bt} {i : Nat} (h : i < u.length) (hs : scanSt u i) (h2 : u[i] = 92) : scanSt u (i + 2) := by
  unfold scanSt at *
  rw [if_pos (by omega)] at hs
  rw [hs, List.drop_eq_getElem_cons h, h2]
  by_cases hl : i + 1 < u.length
  · rw [if_pos (by omega), List.drop_eq_getElem_cons hl, scan_two]
    cases scanQ (u.drop (i + 1 + 1)) with
    | none => rfl
    | some x =>
      show some (u.take i ++ 92 :: u[i + 1] :: x.1, x.2) = some (u.take (i + 1 + 1) ++ x.1, x.2)
      rw [List.take_succ_eq_append_getElem hl, List.take_succ_eq_append_getElem h, h2, List.append_assoc, List.append_assoc]
      rfl
  · rw [if_neg (by omega), List.drop_of_length_le (show u.length ≤ i + 1 by omega)]
    simp [scanQ]
theorem scanSt_end {u : Bt} {i : Nat} (h : i < u.length) (hs : scanSt u i) (h1 : u[i] = 34) : scanQ u = some (u.take i, u.drop (i + 1)) := by
  unfold scanSt at hs
  rw [if_pos (by omega)] at hs
  rw [hs, List.drop_eq_getElem_cons h, h1, scan_end]
  simp
theorem scanSt_none {u : Bt} {i : Nat} (h : u.length ≤ i) (hs : scanSt u i) : scanQ u = none := by
  unfold scanSt at hs
  split at hs
  · rw [hs, List.drop_of_length_le h]
    simp [scanQ]
  · exact hs
set_option maxRecDepth 100000 in
set_option maxHeartbeats 4000000 in
theorem ttext_any (HU : UnjHas) {X : Nat} {s : Bt} {k : Nat} {w : World} (h : TS X s k w) (hk : k ≤ s.length) (hs : s.length ≤ 100000) :
    Calls Tryd.prog 38 #[.pointer (some ⟨X, 0, none⟩)] w fun e w' => ∃ x ok k', e = .returned (.tuple #[.string (bs x), .bool ok]) ∧ k' ≤ s.length ∧ TS X s k' w' ∧ Off (fun b => b = X) w w' ∧ textL (s.drop k) = (if ok then some (x, s.drop k') else none) := by
  obtain ⟨n, hn⟩ : ∃ n, s.length = n := ⟨_, rfl⟩
  have hsz : (bs s).size = n := by rw [bs_size, hn]
  have HN := Lib.hid hn
  have HNX : Hid (∀ W, TS X s k W → Calls Tryd.prog 36 #[.pointer (some ⟨X, 0, none⟩)] W fun e w' => e = .returned (.int .u8 (nextZ s k)) ∧ Below W.heap.size W w') := Lib.hid (fun W hW => tnext_any hW hk)
  rw [hn] at hk hs
  have H0 := Lib.hid h
  have HUJ := Lib.hid HU
  clear hn h HU
  obtain ⟨nz, hnz⟩ : ∃ z, nextZ s k = z := ⟨_, rfl⟩
  rw [hnz] at HNX
  by_cases hq : (s.drop k).head? = some 34
  · have hkl : k < n := by
      refine Nat.lt_of_not_le fun h => ?_
      rw [List.drop_of_length_le (by rw [HN.out]; exact h)] at hq
      cases hq
    have hks : k < s.length := by rw [HN.out]; exact hkl
    have hk34 : s[k] = 34 := by rw [head_drop hks] at hq; exact Option.some.inj hq
    have hnz34 : nz = 34 := by
      rw [← hnz]
      unfold nextZ
      rw [drop_a7 s k hks, hk34]
      rfl
    subst hnz34
    obtain ⟨u, hu⟩ : ∃ u, s.drop (k + 1) = u := ⟨_, rfl⟩
    have hul : u.length = n - (k + 1) := by rw [← hu, List.length_drop, HN.out]
    have HTX : Hid (textL (s.drop k) = match scanQ u with | none => none | some (a, b) => (unjq a).map fun x => (x, b)) := Lib.hid (by
      rw [drop_a7 s k hks, hk34, hu]
      unfold textL
      dsimp only
      rw [if_pos rfl]
      rfl)
    have HUI : Hid (∀ i (hi : i < u.length), ∃ hs' : k + 1 + i < s.length, s[k + 1 + i] = u[i]) := Lib.hid (fun i hi => ⟨by rw [HN.out]; omega, by subst hu; simp⟩)
    have HUE := Lib.hid hu
    clear hnz hq
    go_enter Tryd.func38, Tryd.ntmps38
    go_wp2_with (go_at_call 36; (with_reducible refine (HNX.out _ H0.out).mono ?_); rintro e w1 ⟨rfl, b1⟩
                 have d0 := (H0.out.below b1).c0
                 have d1 := (H0.out.below b1).c1)
    have HT1 := Lib.hid (H0.out.below b1)
    have HO1 : Hid (Off (fun b => b = X) w w1) := Lib.hid ((Off.of_below b1).mono (fun _ h => h.elim))
    have hul2 : u.length + (k + 1) = n := by omega
    go_loopw [4] (fun v wr => ∃ i : Nat, i ≤ u.length + 1 ∧ v = .int .i64 ((k + 1 + i : Nat) : Int) ∧ Hid (scanSt u i) ∧ wr = w1) (fun v _ => n + 2 - (RowKit.intOf v).toNat)
    case atStart => exact ⟨0, by omega, by rfl, Lib.hid (scanSt_zero u), rfl⟩
    case round =>
      obtain ⟨i, hiu, rfl, HSC, hw⟩ := hrel
      subst hw
      obtain ⟨p, hp⟩ : ∃ p, k + 1 + i = p := ⟨_, rfl⟩
      rw [hp]
      by_cases hin : i < u.length
      · obtain ⟨hps, hpv⟩ := HUI.out i hin
        have hpn : p < n := by omega
        have i2' : (0 : Int) ≤ (p : Int) := by omega
        have i3' : (p : Int) < (n : Int) := by omega
        have hdk : decide ((p : Int) < (n : Int)) = true := decide_eq_true i3'
        have hps' : p < s.length := by rw [HN.out]; exact hpn
        have hpv' : s[p] = u[i] := by subst hp; exact hpv
        by_cases hc : u[i] = 34
        · have hix := byte_run s p 34 hps' (by rw [hpv', hc]; rfl)
          have HE := Lib.hid (scanSt_end hin HSC.out hc)
          have hdk2 : decide ((n : Int) ≤ (p : Int)) = false := decide_eq_false (by omega)
          obtain ⟨a, ha⟩ : ∃ a, u.take i = a := ⟨_, rfl⟩
          have hal : a.length = i := by rw [← ha, List.length_take]; omega
          obtain ⟨qs, hqs⟩ : ∃ q, 34 :: a ++ [34] = q := ⟨_, rfl⟩
          have hsl : ∀ W, (Instr.slice 9 (.string (bs s)) (some (.int .i64 k)) (some (.int .i64 ((p : Int) + 1))) none).run Tryd.prog W = .ok (.string (bs qs)) W := fun W => slice_mid s k (i + 2) _ (by omega) (by rw [HN.out]; omega) _ (by
            rw [drop_a7 s k hks, hk34, HUE.out, ← hqs, ← ha]
            show 34 :: u.take (i + 1) = _
            rw [List.take_succ_eq_append_getElem hin, hc]
            rfl) W
          have HUJ2 : Hid (∀ W, Calls Tryd.prog 57 #[.string (bs qs)] W fun e w' => e = .returned (.tuple #[.string (bs ((unjq a).getD [])), .bool (unjq a).isSome]) ∧ Below W.heap.size W w') := Lib.hid (fun W => by rw [← hqs]; exact HUJ.out a W (by omega))
          have hdp : u.drop (i + 1) = s.drop (p + 1) := by
            rw [← HUE.out, List.drop_drop, ← hp]
            congr 1
          have HR : Hid (textL (s.drop k) = (unjq a).map fun x => (x, s.drop (p + 1))) := Lib.hid (by rw [HTX.out, HE.out, ha, hdp])
          obtain ⟨x, hx⟩ : ∃ x, bs ((unjq a).getD []) = x := ⟨_, rfl⟩
          obtain ⟨ok, hok⟩ : ∃ x, (unjq a).isSome = x := ⟨_, rfl⟩
          rw [hx, hok] at HUJ2
          have HX := Lib.hid hx
          have HOK := Lib.hid hok
          have i4' : (k : Int) ≤ (p : Int) + 1 := by omega
          have i5' : (p : Int) + 1 ≤ (n : Int) := by omega
          have i6' : (0 : Int) ≤ (k : Int) := by omega
          have hwk : IntKind.i64.wrap ((p : Int) + 1) = (p : Int) + 1 := IntWalk.i64_in _ (by omega)
          clear hpv hpv' hc ha hdp hx hok HE hqs
          go_upto_region 10 with fail
          obtain ⟨V, hV⟩ : ∃ V, V = wr := ⟨_, rfl⟩
          subst hV
          have D0 : V.drew.cell? ⟨X, 0, none⟩ = some (.string (bs s)) := d0
          have D1 : V.drew.cell? ⟨X, 1, none⟩ = some (.int .i64 k) := d1
          have HTD : Hid (TS X s k V.drew) := Lib.hid (HT1.out.drewN 1)
          have HOD : Hid (Off (fun b => b = X) w V.drew) := Lib.hid (HO1.out.drewN 1)
          go_region_with (go_at_call 57; (with_reducible refine (HUJ2.out _).mono ?_); rintro e w2 ⟨rfl, b2⟩
                          have hT2 : TS X s k w2 := HTD.out.below b2
                          have g1 := hT2.c1
                          have gf := hT2.free 1
                          have HN2 : Hid (TS X s (p + 1) (w2.setCell ⟨X, 1, none⟩ (.int .i64 ((p : Int) + 1)))) := Lib.hid (hT2.set (p + 1))
                          have HO2 : Hid (Off (fun b => b = X) w (w2.setCell ⟨X, 1, none⟩ (.int .i64 ((p : Int) + 1)))) := Lib.hid ((HOD.out.trans (Off.of_below b2) (fun _ h => h.elim)).trans (off_set7 _ _ _ _) (fun _ h => .inl h))
                          clear hT2)
          all_goals go_wp2
          all_goals go_ret2
          all_goals exact ⟨(unjq a).getD [], ok, p + 1, by rw [HX.out]; rfl, by omega, HN2.out, HO2.out, by
            rw [HR.out]
            have h := HOK.out
            cases hu : unjq a with
            | none => rw [hu] at h; rw [← h]; rfl
            | some y => rw [hu] at h; rw [← h]; rfl⟩
        · by_cases hc2 : u[i] = 92
          · have hix := byte_run s p 92 hps' (by rw [hpv', hc2]; rfl)
            have HS2 := Lib.hid (scanSt_two hin HSC.out hc2)
            clear hpv hpv' hc hc2 HSC
            go_wp2
            exact ⟨⟨i + 2, by omega, (by rw [← hp]; first | rfl | (congr 1; omega)), HS2, trivial⟩, by show n + 2 - ((p : Int) + 1 + 1).toNat < n + 2 - (p : Int).toNat; omega⟩
          · obtain ⟨z, hz⟩ : ∃ z, (u[i].toNat : Int) = z := ⟨_, rfl⟩
            have hix := byte_run s p z hps' (by rw [hpv']; exact hz)
            have e1 : (z == 34) = false := by rw [← hz]; exact ne_byte (d := 34) hc
            have e2 : (z == 92) = false := by rw [← hz]; exact ne_byte (d := 92) hc2
            have HS2 := Lib.hid (scanSt_one hin HSC.out hc hc2)
            clear hpv hpv' hc hc2 HSC hz
            go_wp2
            exact ⟨⟨i + 1, by omega, (by rw [← hp]; first | rfl | (congr 1; omega)), HS2, trivial⟩, by show n + 2 - ((p : Int) + 1).toNat < n + 2 - (p : Int).toNat; omega⟩
      · have hnone := scanSt_none (by omega) HSC.out
        have HF : Hid (textL (s.drop k) = none) := Lib.hid (by rw [HTX.out, hnone])
        have hdk : decide ((p : Int) < (n : Int)) = false := decide_eq_false (by omega)
        have hdk2 : decide ((n : Int) ≤ (p : Int)) = true := decide_eq_true (by omega)
        clear hnone
        go_wp2
        go_ret2
        exact ⟨[], false, k, rfl, by rw [HN.out]; exact hk, HT1.out, HO1.out, HF.out⟩
  · have hnz34 : (nz == 34) = false := by
      rw [← hnz, beq_eq_false_iff_ne]
      unfold nextZ
      cases hd : s.drop k with
      | nil => decide
      | cons c t =>
        rw [hd] at hq
        intro e
        have : c.toNat = (34 : UInt8).toNat := by
          have : (c.toNat : Int) = 34 := e
          show c.toNat = 34
          omega
        exact hq (by rw [UInt8.toNat_inj.1 this]; rfl)
    have HTX : Hid (textL (s.drop k) = none) := Lib.hid (by
      unfold textL
      cases hd : s.drop k with
      | nil => rfl
      | cons c t =>
        rw [hd] at hq
        dsimp only
        rw [if_neg (fun e => hq (by rw [e]; rfl))])
    clear hnz hq
    go_enter Tryd.func38, Tryd.ntmps38
    go_wp2_with (go_at_call 36; (with_reducible refine (HNX.out _ H0.out).mono ?_); rintro e w1 ⟨rfl, b1⟩)
    go_ret2
    exact ⟨[], false, k, rfl, by rw [HN.out]; exact hk, H0.out.below b1, (Off.of_below b1).mono (fun _ h => h.elim), HTX.out⟩
end Go.Proofs.YtchgelfomnbpaaaDoor
