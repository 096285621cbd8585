/-
  Of the proofs of layer 7 (values of JSON): the parts JE JF JG. No conditions.
-/
import Derived.Test.YtchgelfomnbpaaaDoorZ07
import Derived.Deep.CutBlock
import Derived.Deep.DeepCutAuto
namespace Go.Proofs.YtchgelfomnbpaaaDoor
open Go.RowKit
open Go.Lib

theorem slice_tail (t : Bt) (k : Nat) (z : Int) (hz : (k : Int) = z) (h : k ≤ t.length) (r : Bt) (hr : t.drop k = r) (W : World) : (Instr.slice 9 (.string (bs t)) (some (.int .i64 z)) none none).run Tryd.prog W = .ok (.string (bs r)) W := by
  subst hz hr
  have hsz := bs_size t
  refine (run_slice_string_l (P := Tryd.prog) W 9 (bs t) Tryd.underlying9 .i64 (k : Int) (by omega) (by omega)).trans ?_
  congr 2
  apply ByteArray.ext
  apply Array.ext'
  rw [show ((k : Int)).toNat = k from by omega]
  unfold bs
  simp [ByteArray.data_extract, ByteArray.size]
  exact List.take_of_length_le (by rw [List.length_drop]; exact Nat.le_refl _)
theorem ne_byte {c d : UInt8} (h : c ≠ d) : ((c.toNat : Int) == (d.toNat : Int)) = false := by
  rw [beq_eq_false_iff_ne]
  intro e
  have e2 : c.toNat = d.toNat := by omega
  exact h (UInt8.toNat_inj.1 e2)
theorem head_drop {t : Bt} {i : Nat} (h : i < t.length) : (t.drop i).head? = some t[i] := by
  rw [List.drop_eq_getElem_cons h]
  rfl
set_option maxRecDepth 100000 in
set_option maxHeartbeats 8000000 in
theorem rjnum_any (t : Bt) (w : World) (hs : t.length ≤ 1000000000) : Calls Tryd.prog 28 #[.string (bs t)] w fun e w' => e = .returned (.int .i64 (numLen t)) ∧ w = w' := by
  obtain ⟨n, hn⟩ : ∃ n, t.length = n := ⟨_, rfl⟩
  have hsz : (bs t).size = n := by rw [bs_size, hn]
  have HN := Lib.hid hn
  have hs2 : n ≤ 1000000000 := by rw [← hn]; exact hs
  have HNU : Hid (∀ i m W, i ≤ n → dgL (t.drop i) = m → Calls Tryd.prog 47 #[.string (bs (t.drop i)), .int .i64 10, .int .i64 n] W fun e w' => (∃ z, e = .returned (.tuple #[.int .i64 z, .int .i64 m])) ∧ W = w') := Lib.hid (fun i m W hi hm => by
    have := rnum_any (t.drop i) n W (by rw [List.length_drop]; omega) hs2
    rw [hm] at this
    exact this)
  have HDG : Hid (∀ i, i ≤ n → dgL (t.drop i) ≤ n - i) := Lib.hid (fun i hi => by
    have := dg_le (t.drop i)
    rw [List.length_drop, HN.out] at this
    exact this)
  obtain ⟨i, hi⟩ : ∃ i, signL t = i := ⟨_, rfl⟩
  obtain ⟨m, hm⟩ : ∃ m, dgL (t.drop i) = m := ⟨_, rfl⟩
  obtain ⟨ans, hans⟩ : ∃ a, numLen t = a := ⟨_, rfl⟩
  have HANS : Hid (ans = if m = 0 ∨ ((t.drop i).head? = some 48 ∧ 1 < m) then 0 else match fracL (t.drop (i + m)) with | none => 0 | some f => match expL (t.drop (i + m + f)) with | none => 0 | some e => i + m + f + e) := Lib.hid (by
    rw [← hans, ← hm, ← hi]
    rfl)
  rw [hans]
  have HI := Lib.hid hi
  have HM := Lib.hid hm
  clear hn hs hans hi hm
  obtain ⟨sb, hsb⟩ : ∃ b, decide (t.head? = some 45) = b := ⟨_, rfl⟩
  have hi1 : i = if sb then 1 else 0 := by
    rw [← HI.out, ← hsb]
    unfold signL
    by_cases h : t.head? = some 45
    · rw [if_pos h, decide_eq_true h]; rfl
    · rw [if_neg h, decide_eq_false h]; rfl
  have hin : i ≤ n := by
    rw [hi1]
    cases sb
    · exact Nat.zero_le _
    · have := of_decide_eq_true hsb
      cases t with
      | nil => cases this
      | cons c t => rw [← HN.out]; simp
  have HSB := Lib.hid hsb
  clear hsb
  go_enter Tryd.func28, Tryd.ntmps28
  go_upto_region 2 with fail
  go_cut [15] (fun v wx => v = .bool sb ∧ wx = w)
  case first =>
    by_cases h0 : 0 < n
    · have h0t : 0 < t.length := by rw [HN.out]; exact h0
      have hhd := head_drop h0t
      rw [List.drop_zero] at hhd
      by_cases hc : t[0] = 45
      · have hix : ∀ W, (Instr.index 9 (.string (bs t)) (.int .i64 0)).run Tryd.prog W = .ok (.int .u8 45) W := fun W => byte_run t 0 45 h0t (by rw [hc]; rfl) W
        have hb1 : sb = true := by rw [← HSB.out, hhd, hc]; rfl
        clear hc hhd
        subst hb1
        go_wp2
        go_meet
        case rel => exact ⟨rfl, rfl⟩
      · obtain ⟨z, hz⟩ : ∃ z, (t[0].toNat : Int) = z := ⟨_, rfl⟩
        have hix : ∀ W, (Instr.index 9 (.string (bs t)) (.int .i64 0)).run Tryd.prog W = .ok (.int .u8 z) W := fun W => byte_run t 0 z h0t hz W
        have e45 : (z == 45) = false := by rw [← hz]; exact ne_byte (d := 45) hc
        have hb1 : sb = false := by rw [← HSB.out, hhd]; exact decide_eq_false (fun e => hc (Option.some.inj e))
        clear hc hz hhd
        subst hb1
        go_wp2
        go_meet
        case rel => exact ⟨rfl, rfl⟩
    · obtain rfl : n = 0 := by omega
      have hb1 : sb = false := by
        rw [← HSB.out]
        have : t = [] := List.eq_nil_of_length_eq_zero HN.out
        rw [this]
        rfl
      subst hb1
      go_wp2
      go_meet
      case rel => exact ⟨rfl, rfl⟩
  case rest =>
    obtain ⟨rfl, rfl⟩ := hcut
    go_upto_if 15 with fail
    go_cut [3] (fun v wx => v = .int .i64 i ∧ wx = wc)
    case first =>
      cases sb
      · subst hi1
        go_wp2
        go_meet
        case rel => exact ⟨rfl, rfl⟩
      · subst hi1
        go_wp2
        go_meet
        case rel => exact ⟨rfl, rfl⟩
    case rest =>
      obtain ⟨rfl, hw⟩ := hcut
      subst hw
      clear hi1 HSB
      have hsl := slice_tail t i (i : Int) rfl (by rw [HN.out]; exact hin) _ rfl
      have HN1 : Hid (∀ W, Calls Tryd.prog 47 #[.string (bs (t.drop i)), .int .i64 10, .int .i64 n] W fun e w' => (∃ z, e = .returned (.tuple #[.int .i64 z, .int .i64 m])) ∧ W = w') := Lib.hid (fun W => HNU.out i m W hin HM.out)
      have hml : m ≤ n - i := by rw [← HM.out]; exact HDG.out i hin
      have i0' : (0 : Int) ≤ (i : Int) := by omega
      have i1' : (i : Int) ≤ (n : Int) := by omega
      obtain ⟨zb, hzb⟩ : ∃ b, decide (m = 0 ∨ ((t.drop i).head? = some 48 ∧ 1 < m)) = b := ⟨_, rfl⟩
      have HZB := Lib.hid hzb
      clear hzb
      go_upto_region 5 with (go_at_call 47; (with_reducible refine (HN1.out _).mono ?_); rintro e w1 ⟨⟨z1, rfl⟩, rfl⟩)
      clear hsl
      go_cut [38] (fun v wx => v = .bool zb ∧ wx = wc)
      case first =>
        by_cases hm0 : m = 0
        · have hb1 : zb = true := by rw [← HZB.out]; exact decide_eq_true (.inl hm0)
          subst hm0
          subst hb1
          go_wp2
          go_meet
          case rel => exact ⟨rfl, rfl⟩
        · have hil : i < n := by omega
          have hit : i < t.length := by rw [HN.out]; exact hil
          have hhd := head_drop hit
          have hmz : ((m : Int) == 0) = false := by rw [beq_eq_false_iff_ne]; omega
          have i2' : (i : Int) < (n : Int) := by omega
          by_cases hc : t[i] = 48
          · have hix := byte_run t i 48 hit (by rw [hc]; rfl)
            have hb1 : zb = decide (1 < m) := by rw [← HZB.out, hhd, hc]; simp [hm0]
            have hdm : decide ((1 : Int) < (m : Int)) = zb := by rw [hb1]; exact decide_eq_decide.2 (by omega)
            clear hc hhd hb1
            go_wp2
            go_meet
            case rel => exact ⟨by first | rfl | rw [hdm], rfl⟩
          · obtain ⟨z, hz⟩ : ∃ z, (t[i].toNat : Int) = z := ⟨_, rfl⟩
            have hix := byte_run t i z hit hz
            have e48 : (z == 48) = false := by rw [← hz]; exact ne_byte (d := 48) hc
            have hb1 : zb = false := by rw [← HZB.out, hhd]; exact decide_eq_false (fun e => e.elim hm0 (fun e => hc (Option.some.inj e.1)))
            clear hc hz hhd
            subst hb1
            go_wp2
            go_meet
            case rel => exact ⟨rfl, rfl⟩
      case rest =>
        obtain ⟨rfl, hw⟩ := hcut
        subst hw
        go_upto_if 38 with fail
        cases zb
        · have hno : ¬ (m = 0 ∨ ((t.drop i).head? = some 48 ∧ 1 < m)) := of_decide_eq_false HZB.out
          have HANS2 : Hid (ans = match fracL (t.drop (i + m)) with | none => 0 | some f => match expL (t.drop (i + m + f)) with | none => 0 | some e => i + m + f + e) := Lib.hid (by rw [HANS.out, if_neg hno])
          obtain ⟨j, hj⟩ : ∃ j, i + m = j := ⟨_, rfl⟩
          have hij : (i : Int) + (m : Int) = (j : Int) := by omega
          have hjn : j ≤ n := by omega
          rw [hj] at HANS2
          obtain ⟨fb, hfb⟩ : ∃ b, decide ((t.drop j).head? = some 46) = b := ⟨_, rfl⟩
          have HFB := Lib.hid hfb
          clear hno hfb hj HANS
          go_upto_region 8 with fail
          go_cut [51] (fun v wx => v = .bool fb ∧ wx = wc)
          case first =>
            by_cases hjl : j < n
            · have hjt : j < t.length := by rw [HN.out]; exact hjl
              have hhd := head_drop hjt
              have i2' : (j : Int) < (n : Int) := by omega
              have hdk : decide ((j : Int) < (n : Int)) = true := decide_eq_true i2'
              have i3' : (0 : Int) ≤ (j : Int) := by omega
              by_cases hc : t[j] = 46
              · have hix := byte_run t j 46 hjt (by rw [hc]; rfl)
                have hb1 : fb = true := by rw [← HFB.out, hhd, hc]; rfl
                clear hc hhd
                subst hb1
                go_wp2
                go_meet
                case rel => exact ⟨rfl, rfl⟩
              · obtain ⟨z, hz⟩ : ∃ z, (t[j].toNat : Int) = z := ⟨_, rfl⟩
                have hix := byte_run t j z hjt hz
                have e46 : (z == 46) = false := by rw [← hz]; exact ne_byte (d := 46) hc
                have hb1 : fb = false := by rw [← HFB.out, hhd]; exact decide_eq_false (fun e => hc (Option.some.inj e))
                clear hc hz hhd
                subst hb1
                go_wp2
                go_meet
                case rel => exact ⟨rfl, rfl⟩
            · have hjn2 : j = n := by omega
              have hdk : decide ((j : Int) < (n : Int)) = false := decide_eq_false (by omega)
              have hb1 : fb = false := by
                rw [← HFB.out, List.drop_of_length_le (by rw [HN.out]; omega)]
                rfl
              subst hb1
              go_wp2
              go_meet
              case rel => exact ⟨rfl, rfl⟩
          case rest =>
            obtain ⟨rfl, hw⟩ := hcut
            subst hw
            go_upto_if 51 with fail
            go_cut [3] (fun v wx => (∃ f : Nat, fracL (t.drop j) = some f ∧ v = .int .i64 ((j + f : Nat) : Int)) ∧ wx = wc)
            case first =>
              cases fb
              · have hf : fracL (t.drop j) = some 0 := by unfold fracL; rw [if_neg (of_decide_eq_false HFB.out)]
                go_wp2
                go_meet
                case rel => exact ⟨⟨0, hf, rfl⟩, rfl⟩
              · have h46 := of_decide_eq_true HFB.out
                have hjl : j < n := by
                  refine Nat.lt_of_not_le fun h => ?_
                  rw [List.drop_of_length_le (by rw [HN.out]; exact h)] at h46
                  cases h46
                obtain ⟨m2, hm2⟩ : ∃ m2, dgL (t.drop (j + 1)) = m2 := ⟨_, rfl⟩
                have hdd : (t.drop j).drop 1 = t.drop (j + 1) := by rw [List.drop_drop]
                have hfe : fracL (t.drop j) = if m2 = 0 then none else some (m2 + 1) := by
                  unfold fracL
                  rw [if_pos h46, hdd, hm2]
                have HFE := Lib.hid hfe
                have hsl := slice_tail t (j + 1) ((j : Int) + 1) (by omega) (by rw [HN.out]; omega) _ rfl
                have HN2 : Hid (∀ W, Calls Tryd.prog 47 #[.string (bs (t.drop (j + 1))), .int .i64 10, .int .i64 n] W fun e w' => (∃ z, e = .returned (.tuple #[.int .i64 z, .int .i64 m2])) ∧ W = w') := Lib.hid (fun W => HNU.out (j + 1) m2 W (by omega) hm2)
                have hm2l : m2 ≤ n - (j + 1) := by rw [← hm2]; exact HDG.out (j + 1) (by omega)
                have i2' : (0 : Int) ≤ (j : Int) + 1 := by omega
                have i3' : (j : Int) + 1 ≤ (n : Int) := by omega
                clear h46 hm2 hdd hfe
                by_cases hm0 : m2 = 0
                · have ha0 : ans = 0 := by rw [HANS2.out, HFE.out, if_pos hm0]
                  subst hm0
                  subst ha0
                  go_wp2_with (go_at_call 47; (with_reducible refine (HN2.out _).mono ?_); rintro e w1 ⟨⟨z2, rfl⟩, rfl⟩)
                  go_ret
                  exact ⟨rfl, rfl⟩
                · have hmz : ((m2 : Int) == 0) = false := by rw [beq_eq_false_iff_ne]; omega
                  have hf := HFE.out
                  rw [if_neg hm0] at hf
                  have HF := Lib.hid hf
                  clear hf
                  go_wp2_with (go_at_call 47; (with_reducible refine (HN2.out _).mono ?_); rintro e w1 ⟨⟨z2, rfl⟩, rfl⟩)
                  go_meet
                  case rel => exact ⟨⟨m2 + 1, HF.out, by first | rfl | (congr 1; omega)⟩, rfl⟩
            case rest =>
              obtain ⟨⟨f, hf, rfl⟩, hw⟩ := hcut
              subst hw
              have hfl := frac_le hf
              rw [List.length_drop, HN.out] at hfl
              have HANS3 : Hid (ans = match expL (t.drop (j + f)) with | none => 0 | some e => j + f + e) := Lib.hid (by rw [HANS2.out, hf])
              obtain ⟨k, hk⟩ : ∃ k, j + f = k := ⟨_, rfl⟩
              have hkn : k ≤ n := by omega
              rw [hk] at HANS3
              obtain ⟨eb, heb⟩ : ∃ b, decide ((t.drop k).head? = some 101 ∨ (t.drop k).head? = some 69) = b := ⟨_, rfl⟩
              have HEB := Lib.hid heb
              rw [hk]
              clear heb hf hk HANS2 HFB hfl
              go_upto_region 13 with fail
              go_cut [83] (fun v wx => v = .bool eb ∧ wx = wc)
              case first =>
                by_cases hkl : k < n
                · have hkt : k < t.length := by rw [HN.out]; exact hkl
                  have hhd := head_drop hkt
                  have i2' : (k : Int) < (n : Int) := by omega
                  have hdk : decide ((k : Int) < (n : Int)) = true := decide_eq_true i2'
                  have i3' : (0 : Int) ≤ (k : Int) := by omega
                  by_cases hc : t[k] = 101
                  · have hix := byte_run t k 101 hkt (by rw [hc]; rfl)
                    have hb1 : eb = true := by rw [← HEB.out, hhd, hc]; rfl
                    clear hc hhd
                    subst hb1
                    go_wp2
                    go_meet
                    case rel => exact ⟨rfl, rfl⟩
                  · by_cases hc2 : t[k] = 69
                    · have hix := byte_run t k 69 hkt (by rw [hc2]; rfl)
                      have hb1 : eb = true := by rw [← HEB.out, hhd, hc2]; rfl
                      clear hc hc2 hhd
                      subst hb1
                      go_wp2
                      go_meet
                      case rel => exact ⟨rfl, rfl⟩
                    · obtain ⟨z, hz⟩ : ∃ z, (t[k].toNat : Int) = z := ⟨_, rfl⟩
                      have hix := byte_run t k z hkt hz
                      have e1 : (z == 101) = false := by rw [← hz]; exact ne_byte (d := 101) hc
                      have e2 : (z == 69) = false := by rw [← hz]; exact ne_byte (d := 69) hc2
                      have hb1 : eb = false := by rw [← HEB.out, hhd]; exact decide_eq_false (fun e => e.elim (fun e => hc (Option.some.inj e)) (fun e => hc2 (Option.some.inj e)))
                      clear hc hc2 hz hhd
                      subst hb1
                      go_wp2
                      go_meet
                      case rel => exact ⟨rfl, rfl⟩
                · have hkn2 : k = n := by omega
                  have hdk : decide ((k : Int) < (n : Int)) = false := decide_eq_false (by omega)
                  have hb1 : eb = false := by
                    rw [← HEB.out, List.drop_of_length_le (by rw [HN.out]; omega)]
                    rfl
                  subst hb1
                  go_wp2
                  go_meet
                  case rel => exact ⟨rfl, rfl⟩
              case rest =>
                obtain ⟨rfl, hw⟩ := hcut
                subst hw
                go_upto_if 83 with fail
                cases eb
                · have ha : ans = k := by
                    rw [HANS3.out]
                    have : expL (t.drop k) = some 0 := by unfold expL; rw [if_neg (of_decide_eq_false HEB.out)]
                    rw [this]
                    rfl
                  subst ha
                  go_wp2
                  go_ret
                  exact ⟨rfl, rfl⟩
                · have h101 := of_decide_eq_true HEB.out
                  have hkl : k < n := by
                    refine Nat.lt_of_not_le fun h => ?_
                    rw [List.drop_of_length_le (by rw [HN.out]; exact h)] at h101
                    rcases h101 with h | h <;> cases h
                  obtain ⟨g, hg⟩ : ∃ g, expSL (t.drop (k + 1)) = g := ⟨_, rfl⟩
                  have hdd : (t.drop k).drop 1 = t.drop (k + 1) := by rw [List.drop_drop]
                  obtain ⟨m3, hm3⟩ : ∃ m3, dgL (t.drop (k + 1 + g)) = m3 := ⟨_, rfl⟩
                  have hdd2 : (t.drop k).drop (1 + g) = t.drop (k + 1 + g) := by rw [List.drop_drop, Nat.add_assoc]
                  have HE : Hid (expL (t.drop k) = if m3 = 0 then none else some (1 + g + m3)) := Lib.hid (by
                    unfold expL
                    rw [if_pos h101, hdd, hg, hdd2, hm3])
                  have hgl : k + 1 + g ≤ n := by
                    have := exps_le (t.drop (k + 1))
                    rw [hg, List.length_drop, HN.out] at this
                    omega
                  have HG := Lib.hid hg
                  have HM3 := Lib.hid hm3
                  clear h101 hg hm3 hdd hdd2
                  obtain ⟨gb, hgb⟩ : ∃ b, decide ((t.drop (k + 1)).head? = some 43 ∨ (t.drop (k + 1)).head? = some 45) = b := ⟨_, rfl⟩
                  have HGB := Lib.hid hgb
                  have hg1 : g = if gb then 1 else 0 := by
                    rw [← HG.out, ← hgb]
                    unfold expSL
                    by_cases h : (t.drop (k + 1)).head? = some 43 ∨ (t.drop (k + 1)).head? = some 45
                    · rw [if_pos h, decide_eq_true h]; rfl
                    · rw [if_neg h, decide_eq_false h]; rfl
                  clear hgb
                  go_upto_region 15 with fail
                  go_cut [101] (fun v wx => v = .bool gb ∧ wx = wc)
                  case first =>
                    by_cases hkl2 : k + 1 < n
                    · have hkt : k + 1 < t.length := by rw [HN.out]; exact hkl2
                      have hhd := head_drop hkt
                      have i2' : (k : Int) + 1 < (n : Int) := by omega
                      have hdk : decide ((k : Int) + 1 < (n : Int)) = true := decide_eq_true i2'
                      have i3' : (0 : Int) ≤ (k : Int) + 1 := by omega
                      by_cases hc : t[k + 1] = 43
                      · have hix : ∀ W, (Instr.index 9 (.string (bs t)) (.int .i64 ((k : Int) + 1))).run Tryd.prog W = .ok (.int .u8 43) W := byte_run t (k + 1) 43 hkt (by rw [hc]; rfl)
                        have hb1 : gb = true := by rw [← HGB.out, hhd, hc]; rfl
                        clear hc hhd hg1
                        subst hb1
                        go_wp2
                        go_meet
                        case rel => exact ⟨rfl, rfl⟩
                      · by_cases hc2 : t[k + 1] = 45
                        · have hix : ∀ W, (Instr.index 9 (.string (bs t)) (.int .i64 ((k : Int) + 1))).run Tryd.prog W = .ok (.int .u8 45) W := byte_run t (k + 1) 45 hkt (by rw [hc2]; rfl)
                          have hb1 : gb = true := by rw [← HGB.out, hhd, hc2]; rfl
                          clear hc hc2 hhd hg1
                          subst hb1
                          go_wp2
                          go_meet
                          case rel => exact ⟨rfl, rfl⟩
                        · obtain ⟨z, hz⟩ : ∃ z, (t[k + 1].toNat : Int) = z := ⟨_, rfl⟩
                          have hix : ∀ W, (Instr.index 9 (.string (bs t)) (.int .i64 ((k : Int) + 1))).run Tryd.prog W = .ok (.int .u8 z) W := byte_run t (k + 1) z hkt hz
                          have e1 : (z == 43) = false := by rw [← hz]; exact ne_byte (d := 43) hc
                          have e2 : (z == 45) = false := by rw [← hz]; exact ne_byte (d := 45) hc2
                          have hb1 : gb = false := by rw [← HGB.out, hhd]; exact decide_eq_false (fun e => e.elim (fun e => hc (Option.some.inj e)) (fun e => hc2 (Option.some.inj e)))
                          clear hc hc2 hz hhd hg1
                          subst hb1
                          go_wp2
                          go_meet
                          case rel => exact ⟨rfl, rfl⟩
                    · have hdk : decide ((k : Int) + 1 < (n : Int)) = false := decide_eq_false (by omega)
                      have hb1 : gb = false := by
                        rw [← HGB.out, List.drop_of_length_le (by rw [HN.out]; omega)]
                        rfl
                      clear hg1
                      subst hb1
                      go_wp2
                      go_meet
                      case rel => exact ⟨rfl, rfl⟩
                  case rest =>
                    obtain ⟨rfl, hw⟩ := hcut
                    subst hw
                    go_upto_if 101 with fail
                    go_cut [3] (fun v wx => v = .int .i64 ((k + 1 + g : Nat) : Int) ∧ wx = wc)
                    case first =>
                      cases gb
                      · have hg0 : g = 0 := hg1
                        clear hg1
                        subst hg0
                        go_wp2
                        go_meet
                        case rel => exact ⟨rfl, rfl⟩
                      · have hg0 : g = 1 := hg1
                        clear hg1
                        subst hg0
                        go_wp2
                        go_meet
                        case rel => exact ⟨rfl, rfl⟩
                    case rest =>
                      obtain ⟨rfl, hw⟩ := hcut
                      subst hw
                      obtain ⟨q, hq⟩ : ∃ q, k + 1 + g = q := ⟨_, rfl⟩
                      rw [hq] at HM3 hgl ⊢
                      have hsl := slice_tail t q (q : Int) rfl (by rw [HN.out]; exact hgl) _ rfl
                      have HN3 : Hid (∀ W, Calls Tryd.prog 47 #[.string (bs (t.drop q)), .int .i64 10, .int .i64 n] W fun e w' => (∃ z, e = .returned (.tuple #[.int .i64 z, .int .i64 m3])) ∧ W = w') := Lib.hid (fun W => HNU.out q m3 W hgl HM3.out)
                      have hm3l : m3 ≤ n - q := by rw [← HM3.out]; exact HDG.out q hgl
                      have HQ := Lib.hid hq
                      have i2' : (0 : Int) ≤ (q : Int) := by omega
                      have i3' : (q : Int) ≤ (n : Int) := by omega
                      clear hg1 hq
                      by_cases hm0 : m3 = 0
                      · have ha0 : ans = 0 := by rw [HANS3.out, HE.out, if_pos hm0]
                        subst hm0
                        subst ha0
                        go_wp2_with (go_at_call 47; (with_reducible refine (HN3.out _).mono ?_); rintro e w1 ⟨⟨z2, rfl⟩, rfl⟩)
                        go_ret
                        exact ⟨rfl, rfl⟩
                      · have ha : ans = q + m3 := by
                          rw [HANS3.out, HE.out, if_neg hm0]
                          show k + (1 + g + m3) = q + m3
                          have := HQ.out
                          omega
                        have hmz : ((m3 : Int) == 0) = false := by rw [beq_eq_false_iff_ne]; omega
                        subst ha
                        go_wp2_with (go_at_call 47; (with_reducible refine (HN3.out _).mono ?_); rintro e w1 ⟨⟨z2, rfl⟩, rfl⟩)
                        go_ret
                        exact ⟨ret_i6 (by omega), rfl⟩
        · have ha0 : ans = 0 := by rw [HANS.out, if_pos (of_decide_eq_true HZB.out)]
          subst ha0
          go_wp2
          go_ret
          exact ⟨rfl, rfl⟩
end Go.Proofs.YtchgelfomnbpaaaDoor
namespace Go.Proofs.YtchgelfomnbpaaaDoor
open Go.RowKit
open Go.Lib

/-- What the document's Unjson answers of a text in quotes, by what stands between them. -/
def UnjHas : Prop := ∀ (a : Bt) (W : World), a.length ≤ 100000 → Calls Tryd.prog 57 #[.string (bs (34 :: a ++ [34]))] W fun e w' => e = .returned (.tuple #[.string (bs ((unjq a).getD [])), .bool (unjq a).isSome]) ∧ Below W.heap.size W w'
/-- Behind some bytes of a text in quotes. -/
def scanSt (u : Bt) (i : Nat) : Prop := if i ≤ u.length then scanQ u = (scanQ (u.drop i)).map fun x => (u.take i ++ x.1, x.2) else scanQ u = none
theorem scanSt_zero (u : Bt) : scanSt u 0 := by
  unfold scanSt
  rw [if_pos (Nat.zero_le _)]
  cases h : scanQ u with
  | none => simp [h]
  | some x => simp [h]
theorem scanSt_one {u : Bt} {i : Nat} (h : i < u.length) (hs : scanSt u i) (h1 : u[i] ≠ 34) (h2 : u[i] ≠ 92) : scanSt u (i + 1) := by
  unfold scanSt at *
  rw [if_pos (by omega)] at hs
  rw [if_pos (by omega), hs, List.drop_eq_getElem_cons h, scan_one h1 h2]
  cases scanQ (u.drop (i + 1)) with
  | none => rfl
  | some x =>
    show some (u.take i ++ u[i] :: x.1, x.2) = some (u.take (i + 1) ++ x.1, x.2)
    rw [List.take_succ_eq_append_getElem h, List.append_assoc]
    rfl
theorem scanSt_two {u : Bt} {i : Nat} (h : i < u.length) (hs : scanSt u i) (h2 : u[i] = 92) : scanSt u (i + 2) := by
  unfold scanSt at *
  rw [if_pos (by omega)] at hs
  rw [hs, List.drop_eq_getElem_cons h, h2]
  by_cases hl : i + 1 < u.length
  · rw [if_pos (by omega), List.drop_eq_getElem_cons hl, scan_two]
    cases scanQ (u.drop (i + 1 + 1)) with
    | none => rfl
    | some x =>
      show some (u.take i ++ 92 :: u[i + 1] :: x.1, x.2) = some (u.take (i + 1 + 1) ++ x.1, x.2)
      rw [List.take_succ_eq_append_getElem hl, List.take_succ_eq_append_getElem h, h2, List.append_assoc, List.append_assoc]
      rfl
  · rw [if_neg (by omega), List.drop_of_length_le (show u.length ≤ i + 1 by omega)]
    simp [scanQ]
theorem scanSt_end {u : Bt} {i : Nat} (h : i < u.length) (hs : scanSt u i) (h1 : u[i] = 34) : scanQ u = some (u.take i, u.drop (i + 1)) := by
  unfold scanSt at hs
  rw [if_pos (by omega)] at hs
  rw [hs, List.drop_eq_getElem_cons h, h1, scan_end]
  simp
theorem scanSt_none {u : Bt} {i : Nat} (h : u.length ≤ i) (hs : scanSt u i) : scanQ u = none := by
  unfold scanSt at hs
  split at hs
  · rw [hs, List.drop_of_length_le h]
    simp [scanQ]
  · exact hs
set_option maxRecDepth 100000 in
set_option maxHeartbeats 4000000 in
theorem ttext_any (HU : UnjHas) {X : Nat} {s : Bt} {k : Nat} {w : World} (h : TS X s k w) (hk : k ≤ s.length) (hs : s.length ≤ 100000) :
    Calls Tryd.prog 38 #[.pointer (some ⟨X, 0, none⟩)] w fun e w' => ∃ x ok k', e = .returned (.tuple #[.string (bs x), .bool ok]) ∧ k' ≤ s.length ∧ TS X s k' w' ∧ Off (fun b => b = X) w w' ∧ textL (s.drop k) = (if ok then some (x, s.drop k') else none) := by
  obtain ⟨n, hn⟩ : ∃ n, s.length = n := ⟨_, rfl⟩
  have hsz : (bs s).size = n := by rw [bs_size, hn]
  have HN := Lib.hid hn
  have HNX : Hid (∀ W, TS X s k W → Calls Tryd.prog 36 #[.pointer (some ⟨X, 0, none⟩)] W fun e w' => e = .returned (.int .u8 (nextZ s k)) ∧ Below W.heap.size W w') := Lib.hid (fun W hW => tnext_any hW hk)
  rw [hn] at hk hs
  have H0 := Lib.hid h
  have HUJ := Lib.hid HU
  clear hn h HU
  obtain ⟨nz, hnz⟩ : ∃ z, nextZ s k = z := ⟨_, rfl⟩
  rw [hnz] at HNX
  by_cases hq : (s.drop k).head? = some 34
  · have hkl : k < n := by
      refine Nat.lt_of_not_le fun h => ?_
      rw [List.drop_of_length_le (by rw [HN.out]; exact h)] at hq
      cases hq
    have hks : k < s.length := by rw [HN.out]; exact hkl
    have hk34 : s[k] = 34 := by rw [head_drop hks] at hq; exact Option.some.inj hq
    have hnz34 : nz = 34 := by
      rw [← hnz]
      unfold nextZ
      rw [drop_a7 s k hks, hk34]
      rfl
    subst hnz34
    obtain ⟨u, hu⟩ : ∃ u, s.drop (k + 1) = u := ⟨_, rfl⟩
    have hul : u.length = n - (k + 1) := by rw [← hu, List.length_drop, HN.out]
    have HTX : Hid (textL (s.drop k) = match scanQ u with | none => none | some (a, b) => (unjq a).map fun x => (x, b)) := Lib.hid (by
      rw [drop_a7 s k hks, hk34, hu]
      unfold textL
      dsimp only
      rw [if_pos rfl]
      rfl)
    have HUI : Hid (∀ i (hi : i < u.length), ∃ hs' : k + 1 + i < s.length, s[k + 1 + i] = u[i]) := Lib.hid (fun i hi => ⟨by rw [HN.out]; omega, by subst hu; simp⟩)
    have HUE := Lib.hid hu
    clear hnz hq
    go_enter Tryd.func38, Tryd.ntmps38
    go_wp2_with (go_at_call 36; (with_reducible refine (HNX.out _ H0.out).mono ?_); rintro e w1 ⟨rfl, b1⟩
                 have d0 := (H0.out.below b1).c0
                 have d1 := (H0.out.below b1).c1)
    have HT1 := Lib.hid (H0.out.below b1)
    have HO1 : Hid (Off (fun b => b = X) w w1) := Lib.hid ((Off.of_below b1).mono (fun _ h => h.elim))
    have hul2 : u.length + (k + 1) = n := by omega
    go_loopw [4] (fun v wr => ∃ i : Nat, i ≤ u.length + 1 ∧ v = .int .i64 ((k + 1 + i : Nat) : Int) ∧ Hid (scanSt u i) ∧ wr = w1) (fun v _ => n + 2 - (RowKit.intOf v).toNat)
    case atStart => exact ⟨0, by omega, by rfl, Lib.hid (scanSt_zero u), rfl⟩
    case round =>
      obtain ⟨i, hiu, rfl, HSC, hw⟩ := hrel
      subst hw
      obtain ⟨p, hp⟩ : ∃ p, k + 1 + i = p := ⟨_, rfl⟩
      rw [hp]
      by_cases hin : i < u.length
      · obtain ⟨hps, hpv⟩ := HUI.out i hin
        have hpn : p < n := by omega
        have i2' : (0 : Int) ≤ (p : Int) := by omega
        have i3' : (p : Int) < (n : Int) := by omega
        have hdk : decide ((p : Int) < (n : Int)) = true := decide_eq_true i3'
        have hps' : p < s.length := by rw [HN.out]; exact hpn
        have hpv' : s[p] = u[i] := by subst hp; exact hpv
        by_cases hc : u[i] = 34
        · have hix := byte_run s p 34 hps' (by rw [hpv', hc]; rfl)
          have HE := Lib.hid (scanSt_end hin HSC.out hc)
          have hdk2 : decide ((n : Int) ≤ (p : Int)) = false := decide_eq_false (by omega)
          obtain ⟨a, ha⟩ : ∃ a, u.take i = a := ⟨_, rfl⟩
          have hal : a.length = i := by rw [← ha, List.length_take]; omega
          obtain ⟨qs, hqs⟩ : ∃ q, 34 :: a ++ [34] = q := ⟨_, rfl⟩
          have hsl : ∀ W, (Instr.slice 9 (.string (bs s)) (some (.int .i64 k)) (some (.int .i64 ((p : Int) + 1))) none).run Tryd.prog W = .ok (.string (bs qs)) W := fun W => slice_mid s k (i + 2) _ (by omega) (by rw [HN.out]; omega) _ (by
            rw [drop_a7 s k hks, hk34, HUE.out, ← hqs, ← ha]
            show 34 :: u.take (i + 1) = _
            rw [List.take_succ_eq_append_getElem hin, hc]
            rfl) W
          have HUJ2 : Hid (∀ W, Calls Tryd.prog 57 #[.string (bs qs)] W fun e w' => e = .returned (.tuple #[.string (bs ((unjq a).getD [])), .bool (unjq a).isSome]) ∧ Below W.heap.size W w') := Lib.hid (fun W => by rw [← hqs]; exact HUJ.out a W (by omega))
          have hdp : u.drop (i + 1) = s.drop (p + 1) := by
            rw [← HUE.out, List.drop_drop, ← hp]
            congr 1
          have HR : Hid (textL (s.drop k) = (unjq a).map fun x => (x, s.drop (p + 1))) := Lib.hid (by rw [HTX.out, HE.out, ha, hdp])
          obtain ⟨x, hx⟩ : ∃ x, bs ((unjq a).getD []) = x := ⟨_, rfl⟩
          obtain ⟨ok, hok⟩ : ∃ x, (unjq a).isSome = x := ⟨_, rfl⟩
          rw [hx, hok] at HUJ2
          have HX := Lib.hid hx
          have HOK := Lib.hid hok
          have i4' : (k : Int) ≤ (p : Int) + 1 := by omega
          have i5' : (p : Int) + 1 ≤ (n : Int) := by omega
          have i6' : (0 : Int) ≤ (k : Int) := by omega
          have hwk : IntKind.i64.wrap ((p : Int) + 1) = (p : Int) + 1 := IntWalk.i64_in _ (by omega)
          clear hpv hpv' hc ha hdp hx hok HE hqs
          go_upto_region 10 with fail
          obtain ⟨V, hV⟩ : ∃ V, V = wr := ⟨_, rfl⟩
          subst hV
          have D0 : V.drew.cell? ⟨X, 0, none⟩ = some (.string (bs s)) := d0
          have D1 : V.drew.cell? ⟨X, 1, none⟩ = some (.int .i64 k) := d1
          have HTD : Hid (TS X s k V.drew) := Lib.hid (HT1.out.drewN 1)
          have HOD : Hid (Off (fun b => b = X) w V.drew) := Lib.hid (HO1.out.drewN 1)
          go_region_with (go_at_call 57; (with_reducible refine (HUJ2.out _).mono ?_); rintro e w2 ⟨rfl, b2⟩
                          have hT2 : TS X s k w2 := HTD.out.below b2
                          have g1 := hT2.c1
                          have gf := hT2.free 1
                          have HN2 : Hid (TS X s (p + 1) (w2.setCell ⟨X, 1, none⟩ (.int .i64 ((p : Int) + 1)))) := Lib.hid (hT2.set (p + 1))
                          have HO2 : Hid (Off (fun b => b = X) w (w2.setCell ⟨X, 1, none⟩ (.int .i64 ((p : Int) + 1)))) := Lib.hid ((HOD.out.trans (Off.of_below b2) (fun _ h => h.elim)).trans (off_set7 _ _ _ _) (fun _ h => .inl h))
                          clear hT2)
          all_goals go_wp2
          all_goals go_ret2
          all_goals exact ⟨(unjq a).getD [], ok, p + 1, by rw [HX.out]; rfl, by omega, HN2.out, HO2.out, by
            rw [HR.out]
            have h := HOK.out
            cases hu : unjq a with
            | none => rw [hu] at h; rw [← h]; rfl
            | some y => rw [hu] at h; rw [← h]; rfl⟩
        · by_cases hc2 : u[i] = 92
          · have hix := byte_run s p 92 hps' (by rw [hpv', hc2]; rfl)
            have HS2 := Lib.hid (scanSt_two hin HSC.out hc2)
            clear hpv hpv' hc hc2 HSC
            go_wp2
            exact ⟨⟨i + 2, by omega, (by rw [← hp]; first | rfl | (congr 1; omega)), HS2, trivial⟩, by show n + 2 - ((p : Int) + 1 + 1).toNat < n + 2 - (p : Int).toNat; omega⟩
          · obtain ⟨z, hz⟩ : ∃ z, (u[i].toNat : Int) = z := ⟨_, rfl⟩
            have hix := byte_run s p z hps' (by rw [hpv']; exact hz)
            have e1 : (z == 34) = false := by rw [← hz]; exact ne_byte (d := 34) hc
            have e2 : (z == 92) = false := by rw [← hz]; exact ne_byte (d := 92) hc2
            have HS2 := Lib.hid (scanSt_one hin HSC.out hc hc2)
            clear hpv hpv' hc hc2 HSC hz
            go_wp2
            exact ⟨⟨i + 1, by omega, (by rw [← hp]; first | rfl | (congr 1; omega)), HS2, trivial⟩, by show n + 2 - ((p : Int) + 1).toNat < n + 2 - (p : Int).toNat; omega⟩
      · have hnone := scanSt_none (by omega) HSC.out
        have HF : Hid (textL (s.drop k) = none) := Lib.hid (by rw [HTX.out, hnone])
        have hdk : decide ((p : Int) < (n : Int)) = false := decide_eq_false (by omega)
        have hdk2 : decide ((n : Int) ≤ (p : Int)) = true := decide_eq_true (by omega)
        clear hnone
        go_wp2
        go_ret2
        exact ⟨[], false, k, rfl, by rw [HN.out]; exact hk, HT1.out, HO1.out, HF.out⟩
  · have hnz34 : (nz == 34) = false := by
      rw [← hnz, beq_eq_false_iff_ne]
      unfold nextZ
      cases hd : s.drop k with
      | nil => decide
      | cons c t =>
        rw [hd] at hq
        intro e
        have : c.toNat = (34 : UInt8).toNat := by
          have : (c.toNat : Int) = 34 := e
          show c.toNat = 34
          omega
        exact hq (by rw [UInt8.toNat_inj.1 this]; rfl)
    have HTX : Hid (textL (s.drop k) = none) := Lib.hid (by
      unfold textL
      cases hd : s.drop k with
      | nil => rfl
      | cons c t =>
        rw [hd] at hq
        dsimp only
        rw [if_neg (fun e => hq (by rw [e]; rfl))])
    clear hnz hq
    go_enter Tryd.func38, Tryd.ntmps38
    go_wp2_with (go_at_call 36; (with_reducible refine (HNX.out _ H0.out).mono ?_); rintro e w1 ⟨rfl, b1⟩)
    go_ret2
    exact ⟨[], false, k, rfl, by rw [HN.out]; exact hk, H0.out.below b1, (Off.of_below b1).mono (fun _ h => h.elim), HTX.out⟩
end Go.Proofs.YtchgelfomnbpaaaDoor
namespace Go.Proofs.YtchgelfomnbpaaaDoor
open Go.RowKit
open Go.Lib

abbrev TJ : TypeId := 28
/-- A slice that reads as texts, in blocks of T. -/
def RTx (w : World) (T : Nat → Prop) (A : Option Addr) (l : List Bt) : Prop :=
  0 < l.length → ∃ b off, A = some ⟨b, off, none⟩ ∧ T b ∧ b < w.heap.size ∧ ∀ j (h : j < l.length), w.cell? ⟨b, off + j, none⟩ = some (.string (bs l[j]))
mutual
/-- A value of Go that reads as this value of JSON, its lists in blocks of T. -/
def JR (w : World) (T : Nat → Prop) : JV → Value → Prop
  | .mk k t ns l, v => ∃ nA nc lA lc, v = .agg #[.int .i64 k, .string (bs t), .slice nA ns.length nc, .slice lA l.length lc] ∧ RTx w T nA ns ∧ (0 < l.length → ∃ b off, lA = some ⟨b, off, none⟩ ∧ T b ∧ b < w.heap.size ∧ JRl w T l b off)
/-- Cells that read as these values. -/
def JRl (w : World) (T : Nat → Prop) : List JV → Nat → Nat → Prop
  | [], _, _ => True
  | v :: l, b, off => (∃ x0 x1 x2 x3, w.cell? ⟨b, off, none⟩ = some x0 ∧ w.cell? ⟨b, off + 1, none⟩ = some x1 ∧ w.cell? ⟨b, off + 2, none⟩ = some x2 ∧ w.cell? ⟨b, off + 3, none⟩ = some x3 ∧ JR w T v (.agg #[x0, x1, x2, x3])) ∧ JRl w T l b (off + 4)
end
theorem RTx.off {F T : Nat → Prop} {w w' : World} {A : Option Addr} {l : List Bt} (h : RTx w T A l) (ho : Off F w w') (hF : ∀ b, T b → ¬ F b) : RTx w' T A l := fun h0 => by
  obtain ⟨b, off, e, ht, hb, hc⟩ := h h0
  exact ⟨b, off, e, ht, Nat.lt_of_lt_of_le hb ho.size, fun j hj => ho.cell (hc j hj) (hF b ht)⟩
mutual
theorem JR.off {F T : Nat → Prop} {w w' : World} (ho : Off F w w') (hF : ∀ b, T b → ¬ F b) : ∀ (v : JV) (x : Value), JR w T v x → JR w' T v x
  | .mk k t ns l, x, h => by
    rw [JR] at h ⊢
    obtain ⟨nA, nc, lA, lc, e, h1, h2⟩ := h
    refine ⟨nA, nc, lA, lc, e, h1.off ho hF, fun h0 => ?_⟩
    obtain ⟨b, off, e2, ht, hb, hl⟩ := h2 h0
    exact ⟨b, off, e2, ht, Nat.lt_of_lt_of_le hb ho.size, JRl.off ho hF l b off (hF b ht) hl⟩
theorem JRl.off {F T : Nat → Prop} {w w' : World} (ho : Off F w w') (hF : ∀ b, T b → ¬ F b) : ∀ (l : List JV) (b off : Nat), ¬ F b → JRl w T l b off → JRl w' T l b off
  | [], b, off, _, _ => by rw [JRl]; trivial
  | v :: l, b, off, hb, h => by
    rw [JRl] at h ⊢
    obtain ⟨⟨x0, x1, x2, x3, c0, c1, c2, c3, hv⟩, hl⟩ := h
    exact ⟨⟨x0, x1, x2, x3, ho.cell c0 hb, ho.cell c1 hb, ho.cell c2 hb, ho.cell c3 hb, JR.off ho hF v _ hv⟩, JRl.off ho hF l b (off + 4) hb hl⟩
end
theorem JR.below {T : Nat → Prop} {w w' : World} {v : JV} {x : Value} (h : JR w T v x) (hb : Below w.heap.size w w') : JR w' T v x := JR.off (Off.of_below hb) (fun _ _ h => h) v x h
theorem JRl.at {w : World} {T : Nat → Prop} : ∀ {l : List JV} {b off : Nat}, JRl w T l b off → ∀ j (h : j < l.length), ∃ x0 x1 x2 x3, w.cell? ⟨b, off + j * 4, none⟩ = some x0 ∧ w.cell? ⟨b, off + j * 4 + 1, none⟩ = some x1 ∧ w.cell? ⟨b, off + j * 4 + 2, none⟩ = some x2 ∧ w.cell? ⟨b, off + j * 4 + 3, none⟩ = some x3 ∧ JR w T l[j] (.agg #[x0, x1, x2, x3])
  | [], b, off, _, j, h => absurd h (Nat.not_lt_zero _)
  | v :: l, b, off, h, 0, _ => by
    rw [JRl] at h
    simpa using h.1
  | v :: l, b, off, h, j + 1, hj => by
    rw [JRl] at h
    have := JRl.at h.2 j (by simpa using hj)
    have e : off + 4 + j * 4 = off + (j + 1) * 4 := by omega
    rw [e] at this
    exact this
mutual
def sizeJ : JV → Nat
  | .mk _ _ ns l => sizesJ l + ns.length + 1
def sizesJ : List JV → Nat
  | [] => 0
  | v :: l => sizeJ v + sizesJ l
end
theorem len_sizes : ∀ l : List JV, l.length ≤ sizesJ l
  | [] => by simp
  | .mk k t ns l' :: l => by
    have := len_sizes l
    rw [sizesJ, sizeJ, List.length_cons]
    omega
theorem sizes_at : ∀ (l : List JV) (j : Nat) (h : j < l.length), sizeJ l[j] ≤ sizesJ l
  | v :: l, 0, _ => by rw [sizesJ]; simp
  | v :: l, j + 1, h => by
    have := sizes_at l j (by simpa using h)
    rw [sizesJ]
    simp only [List.getElem_cons_succ]
    omega
theorem depths_take : ∀ (l : List JV) (j : Nat) (h : j < l.length), depthsJ (l.take (j + 1)) = max (depthsJ (l.take j)) (depthJ l[j])
  | v :: l, 0, _ => by
    simp only [List.take_succ_cons, List.take_zero, List.getElem_cons_zero, depthsJ]
    omega
  | v :: l, j + 1, h => by
    have := depths_take l j (by simpa using h)
    rw [List.take_succ_cons, List.take_succ_cons, depthsJ, depthsJ, this]
    simp only [List.getElem_cons_succ]
    omega
theorem depths_le : ∀ (l : List JV) (j : Nat), depthsJ (l.take j) ≤ depthsJ l
  | [], j => by simp
  | v :: l, 0 => by simp only [List.take_zero]; rw [depthsJ]; omega
  | v :: l, j + 1 => by
    have := depths_le l j
    rw [List.take_succ_cons, depthsJ, depthsJ]
    omega
set_option maxRecDepth 100000 in
set_option maxHeartbeats 2000000 in
theorem rdepth_any (T : Nat → Prop) : ∀ (N : Nat) (v : JV) (x : Value) (w : World), sizeJ v ≤ N → N ≤ 1000000000 → JR w T v x → depthJ v ≤ 1000000000 → Calls Tryd.prog 14 #[x] w fun e w' => e = .returned (.int .i64 (depthJ v)) ∧ Below w.heap.size w w'
  | 0, .mk k t ns l, x, w, h, _, _, _ => by rw [sizeJ] at h; omega
  | N + 1, .mk k t ns l, x, w, hN, hNb, hJ, hd => by
    have IH := Lib.hid (rdepth_any T N)
    rw [JR] at hJ
    obtain ⟨nA, nc, lA, lc, rfl, _, hl⟩ := hJ
    rw [sizeJ] at hN
    obtain ⟨nn, hnn⟩ : ∃ n, ns.length = n := ⟨_, rfl⟩
    obtain ⟨n, hn⟩ : ∃ n, l.length = n := ⟨_, rfl⟩
    rw [hnn, hn]
    have hn9 : n ≤ 1000000000 := by rw [← hn]; have := len_sizes l; omega
    have HN := Lib.hid hn
    have HNN := Lib.hid hN
    have HL := Lib.hid hl
    have HD := Lib.hid hd
    obtain ⟨D, hD⟩ : ∃ D, depthJ (.mk k t ns l) = D := ⟨_, rfl⟩
    have HDE := Lib.hid (show D = if k = 5 ∨ k = 6 then depthsJ l + 1 else 0 by rw [← hD, depthJ])
    rw [hD] at hd HD ⊢
    clear hl hN hn hnn hD
    by_cases hk : k = 5 ∨ k = 6
    · have HE : Hid (D = depthsJ l + 1) := Lib.hid (by rw [HDE.out, if_pos hk])
      obtain ⟨B, hB⟩ : ∃ B, w.heap.size = B := ⟨_, rfl⟩
      have core : ∀ kk : Int, kk = 5 ∨ kk = 6 → Calls Tryd.prog 14 #[.agg #[.int .i64 kk, .string (bs t), .slice nA nn nc, .slice lA n lc]] w fun e w' => e = .returned (.int .i64 D) ∧ Below B w w' := by
        intro kk hkk
        clear hk
        rcases hkk with rfl | rfl
        · go_enter Tryd.func14, Tryd.ntmps14
          go_wp2
          have HB1 : Hid (Below B w (w.alloc (.cells #[.int .i64 5, .string (bs t), .slice nA nn nc, .slice lA n lc] TJ))) := Lib.hid (by rw [← hB]; exact (Below.refl _ _).alloc (Nat.le_refl _) _)
          go_loopw [3, 17] (fun m i wr => ∃ (z : Int) (j : Nat), j ≤ n ∧ i = .int .i64 j ∧ m = .int .i64 z ∧ Hid (z = depthsJ (l.take j)) ∧ Hid (Below B w wr)) (fun _ i _ => n - (RowKit.intOf i).toNat)
          case atStart => exact ⟨0, 0, Nat.zero_le _, rfl, rfl, Lib.hid (by rw [List.take_zero, depthsJ]; rfl), HB1⟩
          case round =>
            clear HB1
            obtain ⟨z, j, hj, rfl, rfl, HZ, HB⟩ := hrel
            by_cases hjn : j < n
            · have hjl : j < l.length := by rw [HN.out]; exact hjn
              obtain ⟨b, off, hAe, hT, hbw, hJl⟩ := HL.out (by omega)
              obtain ⟨x0, x1, x2, x3, c0, c1, c2, c3, hJ⟩ := hJl.at j hjl
              obtain ⟨vj, hvj⟩ : ∃ v, l[j] = v := ⟨_, rfl⟩
              rw [hvj] at hJ
              have hsj : sizeJ vj ≤ N := by rw [← hvj]; have := sizes_at l j hjl; have := HNN.out; omega
              obtain ⟨k', t', ns', l'⟩ := vj
              have hJ' := hJ
              rw [JR] at hJ'
              obtain ⟨nA', nc', lA', lc', hagg, _, _⟩ := hJ'
              obtain ⟨nn', hnn'⟩ : ∃ x, ns'.length = x := ⟨_, rfl⟩
              obtain ⟨ln', hln'⟩ : ∃ x, l'.length = x := ⟨_, rfl⟩
              rw [hnn', hln'] at hagg
              obtain ⟨rfl, rfl, rfl, rfl⟩ : x0 = .int .i64 k' ∧ x1 = .string (bs t') ∧ x2 = .slice nA' nn' nc' ∧ x3 = .slice lA' ln' lc' := by
                injection hagg with h
                simpa using h
              have hb0 : Below w.heap.size w wr := by rw [hB]; exact HB.out
              have y0 := (hb0.cell (p := ⟨b, off + j * 4, none⟩) hbw).trans c0
              have y1 := (hb0.cell (p := ⟨b, off + j * 4 + 1, none⟩) hbw).trans c1
              have y2 := (hb0.cell (p := ⟨b, off + j * 4 + 2, none⟩) hbw).trans c2
              have y3 := (hb0.cell (p := ⟨b, off + j * 4 + 3, none⟩) hbw).trans c3
              have hba : Below wr.heap.size wr (wr.alloc (.cells #[.int .i64 k', .string (bs t'), .slice nA' nn' nc', .slice lA' ln' lc'] TJ)) := (Below.refl _ _).alloc (Nat.le_refl _) _
              have hdt := depths_take l j hjl
              have hdl := depths_le l (j + 1)
              rw [hvj] at hdt
              obtain ⟨dj, hdj⟩ : ∃ d, depthJ (.mk k' t' ns' l') = d := ⟨_, rfl⟩
              rw [hdj] at hdt
              have hdb : dj ≤ 1000000000 := by have := HE.out; omega
              have HC : Hid (Calls Tryd.prog 14 #[.agg #[.int .i64 k', .string (bs t'), .slice nA' nn' nc', .slice lA' ln' lc']] (wr.alloc (.cells #[.int .i64 k', .string (bs t'), .slice nA' nn' nc', .slice lA' ln' lc'] TJ)) fun e w' => e = .returned (.int .i64 dj) ∧ Below (wr.alloc (.cells #[.int .i64 k', .string (bs t'), .slice nA' nn' nc', .slice lA' ln' lc'] TJ)).heap.size (wr.alloc (.cells #[.int .i64 k', .string (bs t'), .slice nA' nn' nc', .slice lA' ln' lc'] TJ)) w') := Lib.hid (by
                have := IH.out (.mk k' t' ns' l') (.agg #[.int .i64 k', .string (bs t'), .slice nA' nn' nc', .slice lA' ln' lc']) (wr.alloc (.cells #[.int .i64 k', .string (bs t'), .slice nA' nn' nc', .slice lA' ln' lc'] TJ)) hsj (by omega) ((hJ.below hb0).below hba) (by rw [hdj]; exact hdb)
                rw [hdj] at this
                exact this)
              have n0 := (Blk.new (.cells #[.int .i64 k', .string (bs t'), .slice nA' nn' nc', .slice lA' ln' lc'] TJ (0, 0)) wr).cell 0
              have n1 := (Blk.new (.cells #[.int .i64 k', .string (bs t'), .slice nA' nn' nc', .slice lA' ln' lc'] TJ (0, 0)) wr).cell 1
              have n2 := (Blk.new (.cells #[.int .i64 k', .string (bs t'), .slice nA' nn' nc', .slice lA' ln' lc'] TJ (0, 0)) wr).cell 2
              have n3 := (Blk.new (.cells #[.int .i64 k', .string (bs t'), .slice nA' nn' nc', .slice lA' ln' lc'] TJ (0, 0)) wr).cell 3
              have HDT := Lib.hid hdt
              have hzb := HZ.out
              have hsz := hb0.size
              subst hAe
              clear hJl hdt hJ hdj hvj hsj hagg hnn' hln' c0 c1 c2 c3
              go_wp2_with (go_at_call 14; (with_reducible refine HC.out.mono ?_); rintro e w5 ⟨rfl, b5⟩)
              exact ⟨⟨_, j + 1, by omega, rfl, rfl, Lib.hid (by rw [HDT.out]; omega), Lib.hid (HB.out.trans (Below.mono ((hba.trans (b5.mono hba.size))) (by omega)))⟩, by show n - ((j : Int) + 1).toNat < n - (j : Int).toNat; omega⟩
            · obtain rfl : j = n := by omega
              have htk : l.take j = l := List.take_of_length_le (by rw [HN.out]; exact Nat.le_refl _)
              rw [htk] at HZ
              have hz := HZ.out
              have he := HE.out
              clear htk
              go_wp2
              go_ret
              exact ⟨ret_i6 (by omega), HB.out⟩
        · go_enter Tryd.func14, Tryd.ntmps14
          go_wp2
          have HB1 : Hid (Below B w (w.alloc (.cells #[.int .i64 6, .string (bs t), .slice nA nn nc, .slice lA n lc] TJ))) := Lib.hid (by rw [← hB]; exact (Below.refl _ _).alloc (Nat.le_refl _) _)
          go_loopw [3, 17] (fun m i wr => ∃ (z : Int) (j : Nat), j ≤ n ∧ i = .int .i64 j ∧ m = .int .i64 z ∧ Hid (z = depthsJ (l.take j)) ∧ Hid (Below B w wr)) (fun _ i _ => n - (RowKit.intOf i).toNat)
          case atStart => exact ⟨0, 0, Nat.zero_le _, rfl, rfl, Lib.hid (by rw [List.take_zero, depthsJ]; rfl), HB1⟩
          case round =>
            clear HB1
            obtain ⟨z, j, hj, rfl, rfl, HZ, HB⟩ := hrel
            by_cases hjn : j < n
            · have hjl : j < l.length := by rw [HN.out]; exact hjn
              obtain ⟨b, off, hAe, hT, hbw, hJl⟩ := HL.out (by omega)
              obtain ⟨x0, x1, x2, x3, c0, c1, c2, c3, hJ⟩ := hJl.at j hjl
              obtain ⟨vj, hvj⟩ : ∃ v, l[j] = v := ⟨_, rfl⟩
              rw [hvj] at hJ
              have hsj : sizeJ vj ≤ N := by rw [← hvj]; have := sizes_at l j hjl; have := HNN.out; omega
              obtain ⟨k', t', ns', l'⟩ := vj
              have hJ' := hJ
              rw [JR] at hJ'
              obtain ⟨nA', nc', lA', lc', hagg, _, _⟩ := hJ'
              obtain ⟨nn', hnn'⟩ : ∃ x, ns'.length = x := ⟨_, rfl⟩
              obtain ⟨ln', hln'⟩ : ∃ x, l'.length = x := ⟨_, rfl⟩
              rw [hnn', hln'] at hagg
              obtain ⟨rfl, rfl, rfl, rfl⟩ : x0 = .int .i64 k' ∧ x1 = .string (bs t') ∧ x2 = .slice nA' nn' nc' ∧ x3 = .slice lA' ln' lc' := by
                injection hagg with h
                simpa using h
              have hb0 : Below w.heap.size w wr := by rw [hB]; exact HB.out
              have y0 := (hb0.cell (p := ⟨b, off + j * 4, none⟩) hbw).trans c0
              have y1 := (hb0.cell (p := ⟨b, off + j * 4 + 1, none⟩) hbw).trans c1
              have y2 := (hb0.cell (p := ⟨b, off + j * 4 + 2, none⟩) hbw).trans c2
              have y3 := (hb0.cell (p := ⟨b, off + j * 4 + 3, none⟩) hbw).trans c3
              have hba : Below wr.heap.size wr (wr.alloc (.cells #[.int .i64 k', .string (bs t'), .slice nA' nn' nc', .slice lA' ln' lc'] TJ)) := (Below.refl _ _).alloc (Nat.le_refl _) _
              have hdt := depths_take l j hjl
              have hdl := depths_le l (j + 1)
              rw [hvj] at hdt
              obtain ⟨dj, hdj⟩ : ∃ d, depthJ (.mk k' t' ns' l') = d := ⟨_, rfl⟩
              rw [hdj] at hdt
              have hdb : dj ≤ 1000000000 := by have := HE.out; omega
              have HC : Hid (Calls Tryd.prog 14 #[.agg #[.int .i64 k', .string (bs t'), .slice nA' nn' nc', .slice lA' ln' lc']] (wr.alloc (.cells #[.int .i64 k', .string (bs t'), .slice nA' nn' nc', .slice lA' ln' lc'] TJ)) fun e w' => e = .returned (.int .i64 dj) ∧ Below (wr.alloc (.cells #[.int .i64 k', .string (bs t'), .slice nA' nn' nc', .slice lA' ln' lc'] TJ)).heap.size (wr.alloc (.cells #[.int .i64 k', .string (bs t'), .slice nA' nn' nc', .slice lA' ln' lc'] TJ)) w') := Lib.hid (by
                have := IH.out (.mk k' t' ns' l') (.agg #[.int .i64 k', .string (bs t'), .slice nA' nn' nc', .slice lA' ln' lc']) (wr.alloc (.cells #[.int .i64 k', .string (bs t'), .slice nA' nn' nc', .slice lA' ln' lc'] TJ)) hsj (by omega) ((hJ.below hb0).below hba) (by rw [hdj]; exact hdb)
                rw [hdj] at this
                exact this)
              have n0 := (Blk.new (.cells #[.int .i64 k', .string (bs t'), .slice nA' nn' nc', .slice lA' ln' lc'] TJ (0, 0)) wr).cell 0
              have n1 := (Blk.new (.cells #[.int .i64 k', .string (bs t'), .slice nA' nn' nc', .slice lA' ln' lc'] TJ (0, 0)) wr).cell 1
              have n2 := (Blk.new (.cells #[.int .i64 k', .string (bs t'), .slice nA' nn' nc', .slice lA' ln' lc'] TJ (0, 0)) wr).cell 2
              have n3 := (Blk.new (.cells #[.int .i64 k', .string (bs t'), .slice nA' nn' nc', .slice lA' ln' lc'] TJ (0, 0)) wr).cell 3
              have HDT := Lib.hid hdt
              have hzb := HZ.out
              have hsz := hb0.size
              subst hAe
              clear hJl hdt hJ hdj hvj hsj hagg hnn' hln' c0 c1 c2 c3
              go_wp2_with (go_at_call 14; (with_reducible refine HC.out.mono ?_); rintro e w5 ⟨rfl, b5⟩)
              exact ⟨⟨_, j + 1, by omega, rfl, rfl, Lib.hid (by rw [HDT.out]; omega), Lib.hid (HB.out.trans (Below.mono ((hba.trans (b5.mono hba.size))) (by omega)))⟩, by show n - ((j : Int) + 1).toNat < n - (j : Int).toNat; omega⟩
            · obtain rfl : j = n := by omega
              have htk : l.take j = l := List.take_of_length_le (by rw [HN.out]; exact Nat.le_refl _)
              rw [htk] at HZ
              have hz := HZ.out
              have he := HE.out
              clear htk
              go_wp2
              go_ret
              exact ⟨ret_i6 (by omega), HB.out⟩
      rw [hB]
      exact core k hk
    · have HE : Hid (D = 0) := Lib.hid (by rw [HDE.out, if_neg hk])
      have hk5 : (k == 5) = false := by rw [beq_eq_false_iff_ne]; exact fun h => hk (.inl h)
      have hk6 : (k == 6) = false := by rw [beq_eq_false_iff_ne]; exact fun h => hk (.inr h)
      have hk5c : (k != 5) = true := by rw [bne, hk5]; rfl
      have hk6c : (k != 6) = true := by rw [bne, hk6]; rfl
      have hk5b : ¬ k = 5 := fun h => hk (.inl h)
      have hk6b : ¬ k = 6 := fun h => hk (.inr h)
      clear hk
      go_enter Tryd.func14, Tryd.ntmps14
      go_wp2
      go_ret
      exact ⟨by rw [HE.out]; rfl, (Below.refl _ _).alloc (Nat.le_refl _) _⟩
end Go.Proofs.YtchgelfomnbpaaaDoor
