/-
  The walk of the document's Parse of layer 4, whole. Conditions: none.
-/
import Derived.Test.YtlgggibdgfdmhaaGreatDoorPFA
namespace Go.Proofs.YtlgggibdgfdmhaaGreatDoor
open Go.RowKit
open Go.Lib

set_option maxRecDepth 100000 in
set_option maxHeartbeats 8000000 in
theorem rparse_short (l : List UInt8) (w : World) (hl : l.length ≤ 2048) : Calls Tryz.prog 12 #[.string (bs l)] w (RPOut (rParse l) w) := by
  have HP := Lib.hid (show rParse l = if schB (l.take (untilL l [58])) = true ∧ untilL l [58] + 3 ≤ l.length ∧ (l.drop (untilL l [58])).take 3 = [58, 47, 47] then rBehind (l.take (untilL l [58])) (l.drop (untilL l [58] + 3)) else none by unfold rParse; rw [if_neg (by omega)])
  have HZ := Lib.hid (bs_size l)
  have h1 : ¬ (2048 : Int) < ((bs l).size : Int) := by rw [HZ.out]; omega
  have hn := until_le l [58]
  have hu := fun W => until_b l [58] W (by omega) (by decide)
  generalize untilL l [58] = n at *
  have st := fun W => sl_to l n hn W
  have hlt : (l.take n).length ≤ 2048 := by rw [List.length_take]; omega
  have hsm := fun W => rsmall_any (bs (l.take n)) W (by rw [bs_size]; omega)
  rw [bs_list] at hsm
  go_enter Tryz.func12, Tryz.ntmps12
  go_wp2_with fail
  refine (hu _).mono ?_
  clear hu
  rintro e w1 ⟨rfl, b⟩
  have S1 := two_blocks w w1 b
  clear b
  go_wp2_with fail
  refine (hsm w1).mono ?_
  clear hsm
  rintro e w2 ⟨rfl, b⟩
  have S2 := S1.call b
  clear b S1
  have HX := Lib.hid (show schB (l.take n) = (smallL (l.take n) == [104, 116, 116, 112] || smallL (l.take n) == [104, 116, 116, 112, 115]) from rfl)
  generalize smallL (l.take n) = X at *
  go_upto_region 6 with fail
  go_cut [43] (fun c wx => wx = w2 ∧ ((c = .bool false ∧ n + 3 ≤ l.length ∧ Hid (rParse l = rBehind (l.take n) (l.drop (n + 3)))) ∨ (c = .bool true ∧ Hid (rParse l = none))))
  case first =>
    as_aux_lemma =>
      have hwr : IntKind.i64.wrap ((n : Int) + 3) = (n : Int) + 3 := IntWalk.i64_in _ (by omega)
      have HD := Lib.hid (show (l.drop n).take 3 = ((l.take (n + 3)).drop n) by rw [List.drop_take]; congr 1; omega)
      by_cases hsc : X = [104, 116, 116, 112] ∨ X = [104, 116, 116, 112, 115]
      · have HS := Lib.hid (show schB (l.take n) = true by rw [HX.out]; rcases hsc with h | h <;> (rw [h]; decide))
        have q12 : (((bs X).toList == ([104, 116, 116, 112] : List UInt8)) = true) ∨ (((bs X).toList == ([104, 116, 116, 112] : List UInt8)) = false ∧ ((bs X).toList == ([104, 116, 116, 112, 115] : List UInt8)) = true) := by
          rw [toL, bs_list]; rcases hsc with h | h <;> (rw [h]; decide)
        clear hsc HX
        by_cases h3 : n + 3 ≤ l.length
        · have g3 : ¬ ((bs l).size : Int) < (n : Int) + 3 := by rw [HZ.out]; omega
          have sm := fun W => sl_mid l n (n + 3) (n : Int) ((n : Int) + 3) rfl (by omega) (by omega) h3 W
          rw [← HD.out] at sm
          by_cases hc : (l.drop n).take 3 = [58, 47, 47]
          · have q3 : ((bs ((l.drop n).take 3)).toList == ([58, 47, 47] : List UInt8)) = true := by rw [toL, bs_list, hc]; decide
            have HB := Lib.hid (show rParse l = rBehind (l.take n) (l.drop (n + 3)) by rw [HP.out, if_pos ⟨HS.out, h3, hc⟩])
            clear hc HP HD
            generalize (l.drop n).take 3 = Y at *
            rcases q12 with q1 | ⟨q1, q2⟩
            all_goals
              go_wp2_with fail
              go_meet
              exact ⟨rfl, .inl ⟨rfl, h3, HB⟩⟩
          · have q3 : ((bs ((l.drop n).take 3)).toList == ([58, 47, 47] : List UInt8)) = false := by rw [toL, bs_list, beq_eq_false_iff_ne]; exact hc
            have HN := Lib.hid (show rParse l = none by rw [HP.out, if_neg (fun h => hc h.2.2)])
            clear hc HP HD
            generalize (l.drop n).take 3 = Y at *
            rcases q12 with q1 | ⟨q1, q2⟩
            all_goals
              go_wp2_with fail
              go_meet
              exact ⟨rfl, .inr ⟨rfl, HN⟩⟩
        · have g3 : ((bs l).size : Int) < (n : Int) + 3 := by rw [HZ.out]; omega
          have HN := Lib.hid (show rParse l = none by rw [HP.out, if_neg (fun h => h3 h.2.1)])
          clear HP HD
          rcases q12 with q1 | ⟨q1, q2⟩
          all_goals
            go_wp2_with fail
            go_meet
            exact ⟨rfl, .inr ⟨rfl, HN⟩⟩
      · have q1 : ((bs X).toList == ([104, 116, 116, 112] : List UInt8)) = false := by rw [toL, bs_list, beq_eq_false_iff_ne]; exact fun h => hsc (.inl h)
        have q2 : ((bs X).toList == ([104, 116, 116, 112, 115] : List UInt8)) = false := by rw [toL, bs_list, beq_eq_false_iff_ne]; exact fun h => hsc (.inr h)
        have HN := Lib.hid (show rParse l = none by
          rw [HP.out, if_neg (fun h => ?_)]
          have h := h.1
          rw [HX.out, Bool.or_eq_true, beq_iff_eq, beq_iff_eq] at h
          exact hsc h)
        clear HP HX HD hsc
        go_wp2_with fail
        go_meet
        exact ⟨rfl, .inr ⟨rfl, HN⟩⟩
  case rest =>
    obtain ⟨hw, hc⟩ := hcut
    obtain ⟨w3, hw3⟩ : ∃ W, W = wc := ⟨_, rfl⟩
    subst hw3
    subst hw
    clear HP HX
    rcases hc with ⟨rfl, h3, HB⟩ | ⟨rfl, HN⟩
    rotate_left
    · clear st
      go_wp2_with (first | (guard_target =~ Go.wpList _ _ _ ({ dst := _, op := Go.Op.load 24 _, type := _, pos := _, after := _, guard := none } :: _) _ _; refine ld24 rfl S2.a ?_) | (guard_target =~ Go.wpList _ _ _ ({ dst := none, op := Go.Op.store 24 _ _, type := _, pos := _, after := _, guard := none } :: _) _ _; refine st24 rfl rfl S2.r ?_))
      intro wz hz gz
      go_wp2
      exact bodyPost_ret (by simp [results, Tryz.results12, go_sem, hz.c0, hz.c1, hz.c2, hz.c3, hz.c4, hz.c5, hz.c6, hz.c7]) rfl (RPOut.no HN.out (S2.out gz))
    · have h3i : (n : Int) + 3 ≤ ((bs l).size : Int) := by rw [HZ.out]; omega
      as_aux_lemma =>
        have sf := fun W => sl_from l (n + 3) ((n : Int) + 3) (by omega) h3 W
        have hbl : (l.drop (n + 3)).length ≤ 2048 := by rw [List.length_drop]; omega
        generalize l.take n = A at *
        generalize l.drop (n + 3) = b at *
        have hm := until_le b [58, 47, 63, 35]
        have hu := fun W => until_b b [58, 47, 63, 35] W (by omega) (by decide)
        have HBH := Lib.hid (show rBehind A b = if (b.take (untilL b [58, 47, 63, 35])).all hostB = true ∧ 1 ≤ untilL b [58, 47, 63, 35] ∧ untilL b [58, 47, 63, 35] ≤ 253 then
            (match rPort (b.drop (untilL b [58, 47, 63, 35])) with
            | none => none
            | some (n, r) => if okHead r && tailOk r then rRest A (b.take (untilL b [58, 47, 63, 35])) n r else none) else none from rfl)
        generalize untilL b [58, 47, 63, 35] = m at *
        have hR : (b.drop m).length ≤ 2048 := by rw [List.length_drop]; omega
        have HZB := Lib.hid (bs_size b)
        go_wp2_with (guard_target =~ Go.wpList _ _ _ ({ dst := none, op := Go.Op.store _ _ _, type := _, pos := _, after := _, guard := none } :: _) _ _; refine st1 (b := w.heap.size + 1) (k := 0) (v := .string (bs A)) rfl rfl S2.a (by show _ < 8; decide) rfl Tryz.sizeOf9 ?_)
        intro wS3 hbS3 gS3
        have S3 : St w (bs A) ⟨#[]⟩ 0 ⟨#[]⟩ ⟨#[]⟩ ⟨#[]⟩ false false wS3 := S2.up hbS3 gS3 (by simp [lcs])
        clear hbS3 gS3 S2
        have hwr : IntKind.i64.wrap ((n : Int) + 3) = (n : Int) + 3 := IntWalk.i64_in _ (by omega)
        clear st
        go_wp2_with fail
        refine (hu _).mono ?_
        clear hu sf hwr
        rintro e w4 ⟨rfl, bb⟩
        have S4 := S3.call bb
        clear bb S3
        have st := fun W => sl_to b m hm W
        go_wp2_with (guard_target =~ Go.wpList _ _ _ ({ dst := none, op := Go.Op.store _ _ _, type := _, pos := _, after := _, guard := none } :: _) _ _; refine st1 (b := w.heap.size + 1) (k := 1) (v := .string (bs (b.take m))) rfl rfl S4.a (by show _ < 8; decide) rfl Tryz.sizeOf9 ?_)
        intro wS5 hbS5 gS5
        have S5 : St w (bs A) (bs (b.take m)) 0 ⟨#[]⟩ ⟨#[]⟩ ⟨#[]⟩ false false wS5 := S4.up hbS5 gS5 (by simp [lcs])
        clear hbS5 gS5 S4
        clear st
        go_wp2_with fail
        go_loop [7] (fun i => ∃ k : Nat, k ≤ m ∧ i = .int .i64 k ∧ Hid ((b.take k).all hostB = true)) (fun i => m - (RowKit.intOf i).toNat)
        case atStart => exact ⟨0, Nat.zero_le _, rfl, by simp [Hid]⟩
        case round =>
          obtain ⟨k, hk, rfl, hall⟩ := hrel
          by_cases hlk : k < m
          · have dlk : decide (k < m) = true := by simpa using hlk
            have hks : k < (bs b).size := by rw [HZB.out]; omega
            have hle := rletter_any (bs b)[k] wS5
            have HT := Lib.hid (bs_take b k hks)
            have HG := Lib.hid (show b[k]? = some (bs b)[k] from getE? (bs b) k hks)
            have HNN := Lib.hid (show hostB (bs b)[k] = false → rParse l = none from fun h => by
              rw [HB.out, HBH.out, if_neg (fun h2 => all_not hlk ⟨_, HG.out, h⟩ h2.1)])
            have HYY := Lib.hid (show hostB (bs b)[k] = true → (b.take (k + 1)).all hostB = true from fun h => by
              rw [HT.out, List.all_append, hall.out]; simpa using h)
            clear HT HG hall
            as_aux_lemma =>
              cases hd : ldB (bs b)[k] with
              | true =>
                rw [hd] at hle
                have HV := Lib.hid (HYY.out (host_ld hd))
                clear hd HYY HNN
                go_wp2_with fail
                refine hle.mono ?_
                clear hle
                rintro e w' ⟨rfl, rfl⟩
                go_wp2
                go_round
                case rel => exact ⟨k + 1, by omega, by go_num, HV⟩
                case measure => simp [RowKit.intOf]; omega
              | false =>
                rw [hd] at hle
                have HD := Lib.hid hd
                clear hd
                by_cases h45 : (bs b)[k] = 45
                · have q1 : (((bs b)[k].toNat : Int) == 45) = true := beqT _ 45 h45
                  have q2 : (((bs b)[k].toNat : Int) != 45) = false := by rw [bne, q1]; rfl
                  have HV := Lib.hid (HYY.out (by rw [h45]; decide))
                  clear h45 HYY HNN
                  go_wp2_with fail
                  refine hle.mono ?_
                  clear hle
                  rintro e w' ⟨rfl, rfl⟩
                  go_wp2
                  go_round
                  case rel => exact ⟨k + 1, by omega, by go_num, HV⟩
                  case measure => simp [RowKit.intOf]; omega
                · have q1 : (((bs b)[k].toNat : Int) == 45) = false := beqF _ 45 h45
                  have q2 : (((bs b)[k].toNat : Int) != 45) = true := by rw [bne, q1]; rfl
                  by_cases h46 : (bs b)[k] = 46
                  · have q3 : (((bs b)[k].toNat : Int) == 46) = true := beqT _ 46 h46
                    have q4 : (((bs b)[k].toNat : Int) != 46) = false := by rw [bne, q3]; rfl
                    have HV := Lib.hid (HYY.out (by rw [h46]; decide))
                    clear h45 h46 HYY HNN
                    go_wp2_with fail
                    refine hle.mono ?_
                    clear hle
                    rintro e w' ⟨rfl, rfl⟩
                    go_wp2
                    go_round
                    case rel => exact ⟨k + 1, by omega, by go_num, HV⟩
                    case measure => simp [RowKit.intOf]; omega
                  · have q3 : (((bs b)[k].toNat : Int) == 46) = false := beqF _ 46 h46
                    have q4 : (((bs b)[k].toNat : Int) != 46) = true := by rw [bne, q3]; rfl
                    have HN := Lib.hid (HNN.out (host_no HD.out h45 h46))
                    clear h45 h46 HYY HNN
                    go_wp2_with fail
                    refine hle.mono ?_
                    clear hle
                    rintro e w' ⟨rfl, rfl⟩
                    go_wp2_with (guard_target =~ Go.wpList _ _ _ ({ dst := none, op := Go.Op.store 24 _ _, type := _, pos := _, after := _, guard := none } :: _) _ _; refine st24 rfl rfl S5.r ?_)
                    intro wz hz gz
                    go_wp2
                    exact bodyPost_ret (by simp [results, Tryz.results12, go_sem, hz.c0, hz.c1, hz.c2, hz.c3, hz.c4, hz.c5, hz.c6, hz.c7]) rfl (RPOut.no HN.out (S5.out gz))
          · have dlk : decide (k < m) = false := by simpa using hlk
            have HA := Lib.hid (show (b.take m).all hostB = true by rw [show m = k by omega]; exact hall.out)
            have hkm : m ≤ k := by omega
            clear hlk hall
            as_aux_lemma =>
              by_cases g1 : m < 1
              · have d1 : decide ((m : Int) < 1) = true := by simp; omega
                have HN := Lib.hid (show rParse l = none by rw [HB.out, HBH.out, if_neg (fun h => by omega)])
                go_wp2_with (guard_target =~ Go.wpList _ _ _ ({ dst := none, op := Go.Op.store 24 _ _, type := _, pos := _, after := _, guard := none } :: _) _ _; refine st24 rfl rfl S5.r ?_)
                intro wz hz gz
                go_wp2
                exact bodyPost_ret (by simp [results, Tryz.results12, go_sem, hz.c0, hz.c1, hz.c2, hz.c3, hz.c4, hz.c5, hz.c6, hz.c7]) rfl (RPOut.no HN.out (S5.out gz))
              by_cases g2 : 253 < m
              · have HN := Lib.hid (show rParse l = none by rw [HB.out, HBH.out, if_neg (fun h => by omega)])
                go_wp2_with (guard_target =~ Go.wpList _ _ _ ({ dst := none, op := Go.Op.store 24 _ _, type := _, pos := _, after := _, guard := none } :: _) _ _; refine st24 rfl rfl S5.r ?_)
                intro wz hz gz
                go_wp2
                exact bodyPost_ret (by simp [results, Tryz.results12, go_sem, hz.c0, hz.c1, hz.c2, hz.c3, hz.c4, hz.c5, hz.c6, hz.c7]) rfl (RPOut.no HN.out (S5.out gz))
              have HB2 := Lib.hid (show rParse l = match rPort (b.drop m) with
                  | none => none
                  | some (n, r) => if okHead r && tailOk r then rRest A (b.take m) n r else none by rw [HB.out, HBH.out, if_pos ⟨HA.out, by omega, by omega⟩])
              have sd := fun W => sl_from b m (m : Int) rfl hm W
              clear HB HBH HA
              generalize b.take m = H at *
              generalize b.drop m = R at *
              go_upto_region 20 with fail
              clear sd
              go_cut [99] (fun c wx => wx = wS5 ∧ ((c = .bool true ∧ Hid (R.head? = some 58)) ∨ (c = .bool false ∧ Hid (¬ R.head? = some 58))))
              case first =>
                as_aux_lemma =>
                  have HZR := Lib.hid (bs_size R)
                  by_cases h0 : 0 < (bs R).size
                  · have HH := Lib.hid (head_get R h0)
                    have h0i : (0 : Int) < ((bs R).size : Int) := by omega
                    by_cases h58 : (bs R)[0] = 58
                    · have q1 : (((bs R)[0].toNat : Int) == 58) = true := beqT _ 58 h58
                      have HV := Lib.hid (show R.head? = some 58 by rw [HH.out, h58])
                      clear h58 HH
                      go_wp2_with fail
                      go_meet
                      exact ⟨rfl, .inl ⟨rfl, HV⟩⟩
                    · have q1 : (((bs R)[0].toNat : Int) == 58) = false := beqF _ 58 h58
                      have HV := Lib.hid (show ¬ R.head? = some 58 by rw [HH.out]; exact fun h => h58 (Option.some.inj h))
                      clear h58 HH
                      go_wp2_with fail
                      go_meet
                      exact ⟨rfl, .inr ⟨rfl, HV⟩⟩
                  · have h0i : ¬ (0 : Int) < ((bs R).size : Int) := by omega
                    have HV := Lib.hid (show ¬ R.head? = some 58 by
                      rw [HZR.out] at h0
                      rw [List.eq_nil_of_length_eq_zero (by omega : R.length = 0)]; simp)
                    go_wp2_with fail
                    go_meet
                    exact ⟨rfl, .inr ⟨rfl, HV⟩⟩
              case rest =>
                obtain ⟨hw, hc⟩ := hcut
                obtain ⟨w6, hw6⟩ : ∃ W, W = wc := ⟨_, rfl⟩
                subst hw6
                subst hw
                go_upto_if 99 with fail
                go_cut [0] (fun s wx => ∃ (pn : Nat) (pr : List UInt8), s = .string (bs pr) ∧ pr.length ≤ 2048 ∧ Hid (rPort R = some (pn, pr)) ∧ St w (bs A) (bs H) pn ⟨#[]⟩ ⟨#[]⟩ ⟨#[]⟩ false false wx)
                case first =>
                  as_aux_lemma =>
                    rcases hc with ⟨rfl, HC⟩ | ⟨rfl, HC⟩
                    · obtain ⟨t, rfl⟩ : ∃ t, R = 58 :: t := by
                        cases R with
                        | nil => exact absurd HC.out (by simp)
                        | cons x t => exact ⟨t, by rw [Option.some.inj HC.out]⟩
                      have s1 := fun W => sl_from (58 :: t) 1 1 rfl (by simp) W
                      rw [show (58 :: t).drop 1 = t from rfl] at s1
                      have htl : t.length ≤ 2047 := by simpa using hR
                      have hnu := fun W => rnumber10_any (bs t) 5 W (by rw [bs_size]; omega) (by decide)
                      unfold NumOut at hnu
                      rw [bs_list] at hnu
                      obtain ⟨hd1, hd2⟩ := digs_length 10 5 t
                      have HRP := Lib.hid (show rPort (58 :: t) = if (digs 10 5 t).length = 0 ∨ t.head? = some 48 ∨ 65535 < valD 10 (digs 10 5 t) then none
                         else some ((valD 10 (digs 10 5 t)).toNat, t.drop (digs 10 5 t).length) from rfl)
                      have hv0 := digs_val 10 5 t (by decide)
                      generalize valD 10 (digs 10 5 t) = V at *
                      generalize (digs 10 5 t).length = dn at *
                      have HZT := Lib.hid (bs_size t)
                      by_cases g1 : dn = 0
                      · have HN := Lib.hid (show rParse l = none by rw [HB2.out, HRP.out, if_pos (.inl g1)])
                        subst g1
                        go_wp2_with fail
                        refine (hnu _).mono ?_
                        clear hnu
                        rintro e w' ⟨rfl, rfl⟩
                        go_wp2_with (guard_target =~ Go.wpList _ _ _ ({ dst := none, op := Go.Op.store 24 _ _, type := _, pos := _, after := _, guard := none } :: _) _ _; refine st24 rfl rfl S5.r ?_)
                        intro wz hz gz
                        go_wp2
                        exact bodyPost_ret (by simp [results, Tryz.results12, go_sem, hz.c0, hz.c1, hz.c2, hz.c3, hz.c4, hz.c5, hz.c6, hz.c7]) rfl (RPOut.no HN.out (S5.out gz))
                      · have q0 : ((dn : Int) == 0) = false := by rw [beq_eq_false_iff_ne]; omega
                        have h0 : 0 < (bs t).size := by rw [HZT.out]; omega
                        have HH := Lib.hid (head_get t h0)
                        by_cases g2 : (bs t)[0] = 48
                        · have q1 : (((bs t)[0].toNat : Int) == 48) = true := beqT _ 48 g2
                          have HN := Lib.hid (show rParse l = none by rw [HB2.out, HRP.out, if_pos (.inr (.inl (by rw [HH.out, g2])))])
                          clear g2 HH
                          go_wp2_with fail
                          refine (hnu _).mono ?_
                          clear hnu
                          rintro e w' ⟨rfl, rfl⟩
                          go_wp2_with (guard_target =~ Go.wpList _ _ _ ({ dst := none, op := Go.Op.store 24 _ _, type := _, pos := _, after := _, guard := none } :: _) _ _; refine st24 rfl rfl S5.r ?_)
                          intro wz hz gz
                          go_wp2
                          exact bodyPost_ret (by simp [results, Tryz.results12, go_sem, hz.c0, hz.c1, hz.c2, hz.c3, hz.c4, hz.c5, hz.c6, hz.c7]) rfl (RPOut.no HN.out (S5.out gz))
                        · have q1 : (((bs t)[0].toNat : Int) == 48) = false := beqF _ 48 g2
                          by_cases g3 : 65535 < V
                          · have HN := Lib.hid (show rParse l = none by rw [HB2.out, HRP.out, if_pos (.inr (.inr g3))])
                            clear g2 HH
                            go_wp2_with fail
                            refine (hnu _).mono ?_
                            clear hnu
                            rintro e w' ⟨rfl, rfl⟩
                            go_wp2_with (guard_target =~ Go.wpList _ _ _ ({ dst := none, op := Go.Op.store 24 _ _, type := _, pos := _, after := _, guard := none } :: _) _ _; refine st24 rfl rfl S5.r ?_)
                            intro wz hz gz
                            go_wp2
                            exact bodyPost_ret (by simp [results, Tryz.results12, go_sem, hz.c0, hz.c1, hz.c2, hz.c3, hz.c4, hz.c5, hz.c6, hz.c7]) rfl (RPOut.no HN.out (S5.out gz))
                          · obtain ⟨pn, rfl⟩ : ∃ pn : Nat, V = pn := ⟨V.toNat, by omega⟩
                            have HV := Lib.hid (show rPort (58 :: t) = some (pn, t.drop dn) by
                              rw [HRP.out, if_neg (fun h => ?_)]
                              · rfl
                              · rcases h with h | h | h
                                · exact g1 h
                                · rw [HH.out] at h; exact g2 (Option.some.inj h)
                                · exact g3 h)
                            have sd := fun W => sl_from t dn (dn : Int) rfl hd2 W
                            clear g2 HH HRP HB2 HC
                            go_wp2_with fail
                            refine (hnu _).mono ?_
                            clear hnu
                            rintro e w' ⟨rfl, rfl⟩
                            go_wp2_with (guard_target =~ Go.wpList _ _ _ ({ dst := none, op := Go.Op.store _ _ _, type := _, pos := _, after := _, guard := none } :: _) _ _; refine st1 (b := w.heap.size + 1) (k := 2) (v := .int .i64 pn) rfl rfl S5.a (by show _ < 8; decide) rfl Tryz.sizeOf3 ?_)
                            intro wS6 hbS6 gS6
                            have S6 : St w (bs A) (bs H) pn ⟨#[]⟩ ⟨#[]⟩ ⟨#[]⟩ false false wS6 := S5.up hbS6 gS6 (by simp [lcs])
                            clear hbS6 gS6 S5
                            go_wp2_with fail
                            go_meet
                            exact ⟨pn, t.drop dn, rfl, by rw [List.length_drop]; omega, HV, S6⟩
                    · go_wp2_with fail
                      go_meet
                      exact ⟨0, R, rfl, hR, by show _ = _; unfold rPort; rw [if_neg HC.out], S5⟩
                case rest =>
                  obtain ⟨pn, pr, rfl, hpr, HPR, S6⟩ := hcut
                  obtain ⟨w7, hw7⟩ : ∃ W, W = wc := ⟨_, rfl⟩
                  subst hw7
                  have HB3 := Lib.hid (show rParse l = if okHead pr && tailOk pr then rRest A H pn pr else none by rw [HB2.out, HPR.out])
                  clear HB2 HPR hc S5
                  go_upto_region 27 with fail
                  go_cut [142] (fun c wx => wx = w7 ∧ ((c = .bool true ∧ Hid (okHead pr = false)) ∨ (c = .bool false ∧ Hid (okHead pr = true))))
                  case first =>
                    as_aux_lemma =>
                      have HZR := Lib.hid (bs_size pr)
                      by_cases h0 : 0 < (bs pr).size
                      · have HH := Lib.hid (show okHead pr = slashB (bs pr)[0] by
                          have h := head_get pr h0
                          cases pr with
                          | nil => cases h
                          | cons x t => rw [← Option.some.inj h]; rfl)
                        have h0i : (0 : Int) < ((bs pr).size : Int) := by omega
                        by_cases h47 : (bs pr)[0] = 47
                        · have qa : (((bs pr)[0].toNat : Int) == 47) = true := beqT _ 47 h47
                          have qa2 : (((bs pr)[0].toNat : Int) != 47) = false := by rw [bne, qa]; rfl
                          have HV := Lib.hid (show okHead pr = true by rw [HH.out, h47]; decide)
                          clear HH h47
                          go_wp2_with fail
                          go_meet
                          exact ⟨rfl, .inr ⟨rfl, HV⟩⟩
                        · have qa : (((bs pr)[0].toNat : Int) == 47) = false := beqF _ 47 h47
                          have qa2 : (((bs pr)[0].toNat : Int) != 47) = true := by rw [bne, qa]; rfl
                          by_cases h63 : (bs pr)[0] = 63
                          · have qb : (((bs pr)[0].toNat : Int) == 63) = true := beqT _ 63 h63
                            have qb2 : (((bs pr)[0].toNat : Int) != 63) = false := by rw [bne, qb]; rfl
                            have HV := Lib.hid (show okHead pr = true by rw [HH.out, h63]; decide)
                            clear HH h47 h63
                            go_wp2_with fail
                            go_meet
                            exact ⟨rfl, .inr ⟨rfl, HV⟩⟩
                          · have qb : (((bs pr)[0].toNat : Int) == 63) = false := beqF _ 63 h63
                            have qb2 : (((bs pr)[0].toNat : Int) != 63) = true := by rw [bne, qb]; rfl
                            by_cases h35 : (bs pr)[0] = 35
                            · have qc : (((bs pr)[0].toNat : Int) == 35) = true := beqT _ 35 h35
                              have qc2 : (((bs pr)[0].toNat : Int) != 35) = false := by rw [bne, qc]; rfl
                              have HV := Lib.hid (show okHead pr = true by rw [HH.out, h35]; decide)
                              clear HH h47 h63 h35
                              go_wp2_with fail
                              go_meet
                              exact ⟨rfl, .inr ⟨rfl, HV⟩⟩
                            · have qc : (((bs pr)[0].toNat : Int) == 35) = false := beqF _ 35 h35
                              have qc2 : (((bs pr)[0].toNat : Int) != 35) = true := by rw [bne, qc]; rfl
                              have HV := Lib.hid (show okHead pr = false by
                                rw [HH.out]; unfold slashB; rw [beq_eq_false_iff_ne.2 h47, beq_eq_false_iff_ne.2 h63, beq_eq_false_iff_ne.2 h35]; rfl)
                              clear HH h47 h63 h35
                              go_wp2_with fail
                              go_meet
                              exact ⟨rfl, .inl ⟨rfl, HV⟩⟩
                      · have h0i : ¬ (0 : Int) < ((bs pr).size : Int) := by omega
                        have HV := Lib.hid (show okHead pr = true by
                          rw [HZR.out] at h0
                          rw [List.eq_nil_of_length_eq_zero (by omega : pr.length = 0)]; rfl)
                        go_wp2_with fail
                        go_meet
                        exact ⟨rfl, .inr ⟨rfl, HV⟩⟩
                  case rest =>
                    obtain ⟨hw, hc⟩ := hcut
                    obtain ⟨w8, hw8⟩ : ∃ W, W = wc := ⟨_, rfl⟩
                    subst hw8
                    subst hw
                    rcases hc with ⟨rfl, HO⟩ | ⟨rfl, HO⟩
                    · have HN := Lib.hid (show rParse l = none by rw [HB3.out, HO.out]; rfl)
                      go_wp2_with (guard_target =~ Go.wpList _ _ _ ({ dst := none, op := Go.Op.store 24 _ _, type := _, pos := _, after := _, guard := none } :: _) _ _; refine st24 rfl rfl S6.r ?_)
                      intro wz hz gz
                      go_wp2
                      exact bodyPost_ret (by simp [results, Tryz.results12, go_sem, hz.c0, hz.c1, hz.c2, hz.c3, hz.c4, hz.c5, hz.c6, hz.c7]) rfl (RPOut.no HN.out (S6.out gz))
                    · have HB4 := Lib.hid (show rParse l = if tailOk pr then rRest A H pn pr else none by rw [HB3.out, HO.out, Bool.true_and])
                      clear HB3 HO
                      as_aux_lemma =>
                        have HZP := Lib.hid (bs_size pr)
                        go_wp2_with fail
                        go_loopw [10] (fun i wr => ∃ k : Nat, k ≤ pr.length ∧ i = .int .i64 k ∧ St w (bs A) (bs H) pn ⟨#[]⟩ ⟨#[]⟩ ⟨#[]⟩ false false wr ∧ Hid (tailOk pr = tailOk (pr.drop k))) (fun i _ => pr.length - (RowKit.intOf i).toNat)
                        case atStart => exact ⟨0, Nat.zero_le _, rfl, S6, by simp [Hid]⟩
                        case round =>
                          obtain ⟨k, hk, rfl, S7, hac⟩ := hrel
                          clear S6
                          by_cases hlk : k < pr.length
                          · have hks : k < (bs pr).size := by rw [HZP.out]; omega
                            have dlk : decide (k < (bs pr).size) = true := by simpa using hks
                            have HS := Lib.hid (show tailOk pr = (tailB (bs pr)[k] && ((bs pr)[k] != 37 || escAt (pr.drop (k + 1))) && tailOk (pr.drop (k + 1))) by rw [hac.out, bs_drop pr k hks]; rfl)
                            clear hac
                            as_aux_lemma =>
                              have hc8 := UInt8.toNat_lt (bs pr)[k]
                              by_cases g1 : (bs pr)[k].toNat < 33
                              · have HN := Lib.hid (show rParse l = none by rw [HB4.out, HS.out, tail_lo g1]; rfl)
                                have g1i : ((bs pr)[k].toNat : Int) < 33 := by omega
                                clear HS HB4
                                go_wp2_with (guard_target =~ Go.wpList _ _ _ ({ dst := none, op := Go.Op.store 24 _ _, type := _, pos := _, after := _, guard := none } :: _) _ _; refine st24 rfl rfl S7.r ?_)
                                intro wz hz gz
                                go_wp2
                                exact bodyPost_ret (by simp [results, Tryz.results12, go_sem, hz.c0, hz.c1, hz.c2, hz.c3, hz.c4, hz.c5, hz.c6, hz.c7]) rfl (RPOut.no HN.out (S7.out gz))
                              by_cases g2 : 126 < (bs pr)[k].toNat
                              · have HN := Lib.hid (show rParse l = none by rw [HB4.out, HS.out, tail_hi g2]; rfl)
                                have g1i : ¬ ((bs pr)[k].toNat : Int) < 33 := by omega
                                have g2i : (126 : Int) < ((bs pr)[k].toNat : Int) := by omega
                                clear HS HB4
                                go_wp2_with (guard_target =~ Go.wpList _ _ _ ({ dst := none, op := Go.Op.store 24 _ _, type := _, pos := _, after := _, guard := none } :: _) _ _; refine st24 rfl rfl S7.r ?_)
                                intro wz hz gz
                                go_wp2
                                exact bodyPost_ret (by simp [results, Tryz.results12, go_sem, hz.c0, hz.c1, hz.c2, hz.c3, hz.c4, hz.c5, hz.c6, hz.c7]) rfl (RPOut.no HN.out (S7.out gz))
                              have g1i : ¬ ((bs pr)[k].toNat : Int) < 33 := by omega
                              have g2i : ¬ (126 : Int) < ((bs pr)[k].toNat : Int) := by omega
                              have HTI := Lib.hid (tail_in (c := (bs pr)[k]) (by omega) (by omega))
                              have hwr : IntKind.i64.wrap ((k : Int) + 1) = (k : Int) + 1 := IntWalk.i64_in _ (by omega)
                              have sm := fun W => sl_mid pr k (k + 1) (k : Int) ((k : Int) + 1) rfl (by omega) (by omega) (by omega) W
                              rw [bs_one pr k hks] at sm
                              have hu := fun W => until_b [(bs pr)[k]] [34, 60, 62, 92, 94, 96, 123, 124, 125] W (by simp) (by decide)
                              rw [until_one] at hu
                              cases hmk : ([34, 60, 62, 92, 94, 96, 123, 124, 125] : List UInt8).contains (bs pr)[k] with
                              | true =>
                                rw [hmk, if_pos rfl] at hu
                                have HN := Lib.hid (show rParse l = none by rw [HB4.out, HS.out, HTI.out, hmk]; rfl)
                                clear hmk HTI HS HB4
                                go_wp2_with fail
                                refine (hu _).mono ?_
                                clear hu
                                rintro e w9 ⟨rfl, bb⟩
                                have S8 := S7.call bb
                                clear bb S7
                                go_wp2_with (guard_target =~ Go.wpList _ _ _ ({ dst := none, op := Go.Op.store 24 _ _, type := _, pos := _, after := _, guard := none } :: _) _ _; refine st24 rfl rfl S8.r ?_)
                                intro wz hz gz
                                go_wp2
                                exact bodyPost_ret (by simp [results, Tryz.results12, go_sem, hz.c0, hz.c1, hz.c2, hz.c3, hz.c4, hz.c5, hz.c6, hz.c7]) rfl (RPOut.no HN.out (S8.out gz))
                              | false =>
                                rw [hmk, if_neg (by decide)] at hu
                                have HTB := Lib.hid (show tailB (bs pr)[k] = true by rw [HTI.out, hmk]; rfl)
                                clear hmk HTI
                                by_cases h37 : (bs pr)[k] = 37
                                · have q1 : (((bs pr)[k].toNat : Int) == 37) = true := beqT _ 37 h37
                                  have sf := fun W => sl_from pr (k + 1) ((k : Int) + 1) (by omega) (by omega) W
                                  have hdl : (pr.drop (k + 1)).length ≤ 2048 := by rw [List.length_drop]; omega
                                  have hnu := fun W => rnumber16_any (bs (pr.drop (k + 1))) 2 W (by rw [bs_size]; omega) (by decide)
                                  unfold NumOut at hnu
                                  rw [bs_list] at hnu
                                  have hes := Lib.hid (esc_digs (pr.drop (k + 1)))
                                  generalize (digs 16 2 (pr.drop (k + 1))).length = dn at *
                                  generalize valD 16 (digs 16 2 (pr.drop (k + 1))) = V at *
                                  by_cases g3 : 2 ≤ dn
                                  · have g3i : ¬ (dn : Int) < 2 := by omega
                                    have HV : Hid (tailOk pr = tailOk (pr.drop (k + 1))) := by
                                      show _ = _
                                      rw [HS.out, HTB.out, hes.out, decide_eq_true g3]; simp
                                    clear h37 hes HS HTB
                                    generalize hT : pr.drop (k + 1) = T at *
                                    have HT := Lib.hid hT
                                    clear hT
                                    go_wp2_with fail
                                    refine (hu _).mono ?_
                                    clear hu
                                    rintro e w9 ⟨rfl, bb⟩
                                    have S8 := S7.call bb
                                    clear bb S7
                                    go_wp2_with fail
                                    refine (hnu _).mono ?_
                                    clear hnu
                                    rintro e w' ⟨rfl, rfl⟩
                                    go_wp2
                                    go_roundw
                                    case rel => exact ⟨k + 1, by omega, by go_num, S8, by show _ = _; rw [HT.out]; exact HV.out⟩
                                    case measure => simp [RowKit.intOf]; omega
                                  · have g3i : (dn : Int) < 2 := by omega
                                    have HN := Lib.hid (show rParse l = none by rw [HB4.out, HS.out, HTB.out, hes.out, h37, decide_eq_false g3]; rfl)
                                    clear h37 hes HS HTB
                                    generalize pr.drop (k + 1) = T at *
                                    go_wp2_with fail
                                    refine (hu _).mono ?_
                                    clear hu
                                    rintro e w9 ⟨rfl, bb⟩
                                    have S8 := S7.call bb
                                    clear bb S7
                                    go_wp2_with fail
                                    refine (hnu _).mono ?_
                                    clear hnu
                                    rintro e w' ⟨rfl, rfl⟩
                                    go_wp2_with (guard_target =~ Go.wpList _ _ _ ({ dst := none, op := Go.Op.store 24 _ _, type := _, pos := _, after := _, guard := none } :: _) _ _; refine st24 rfl rfl S8.r ?_)
                                    intro wz hz gz
                                    go_wp2
                                    exact bodyPost_ret (by simp [results, Tryz.results12, go_sem, hz.c0, hz.c1, hz.c2, hz.c3, hz.c4, hz.c5, hz.c6, hz.c7]) rfl (RPOut.no HN.out (S8.out gz))
                                · have q1 : (((bs pr)[k].toNat : Int) == 37) = false := beqF _ 37 h37
                                  have HV : Hid (tailOk pr = tailOk (pr.drop (k + 1))) := by
                                    show _ = _
                                    rw [HS.out, HTB.out, bne_iff_ne.2 h37]; rfl
                                  clear h37 HS HTB
                                  go_wp2_with fail
                                  refine (hu _).mono ?_
                                  clear hu
                                  rintro e w9 ⟨rfl, bb⟩
                                  have S8 := S7.call bb
                                  clear bb S7
                                  go_wp2
                                  go_roundw
                                  case rel => exact ⟨k + 1, by omega, by go_num, S8, HV⟩
                                  case measure => simp [RowKit.intOf]; omega
                          · have hks : ¬ k < (bs pr).size := by rw [HZP.out]; omega
                            have dlk : decide (k < (bs pr).size) = false := by simpa using hks
                            have HB5 := Lib.hid (show rParse l = rRest A H pn pr by rw [HB4.out, hac.out, List.drop_eq_nil_of_le (by omega)]; rfl)
                            clear hac HB4 hlk
                            obtain ⟨W0, hW0⟩ : ∃ W0, W0 = wr := ⟨_, rfl⟩
                            subst hW0
                            as_aux_lemma =>
                              have hu := fun W => until_b pr [63, 35] W (by omega) (by decide)
                              have hn2 := until_le pr [63, 35]
                              have HRR := Lib.hid (show rRest A H pn pr = if (pr.drop (untilL pr [63, 35])).head? = some 63 then
                                  rFrag A H pn (pr.take (untilL pr [63, 35])) (((pr.drop (untilL pr [63, 35])).take (untilL (pr.drop (untilL pr [63, 35])) [35])).drop 1) true ((pr.drop (untilL pr [63, 35])).drop (untilL (pr.drop (untilL pr [63, 35])) [35]))
                                else rFrag A H pn (pr.take (untilL pr [63, 35])) [] false (pr.drop (untilL pr [63, 35])) from rfl)
                              generalize untilL pr [63, 35] = n2 at *
                              have st := fun W => sl_to pr n2 hn2 W
                              have sd := fun W => sl_from pr n2 (n2 : Int) rfl hn2 W
                              have hQl : (pr.drop n2).length ≤ 2048 := by rw [List.length_drop]; omega
                              generalize pr.take n2 = P at *
                              generalize pr.drop n2 = Q at *
                              go_wp2_with fail
                              refine (hu _).mono ?_
                              clear hu
                              rintro e w9 ⟨rfl, bb⟩
                              have S8 := S7.call bb
                              clear bb S7
                              go_wp2_with (guard_target =~ Go.wpList _ _ _ ({ dst := none, op := Go.Op.store _ _ _, type := _, pos := _, after := _, guard := none } :: _) _ _; refine st1 (b := w.heap.size + 1) (k := 3) (v := .string (bs P)) rfl rfl S8.a (by show _ < 8; decide) rfl Tryz.sizeOf9 ?_)
                              intro wS9 hbS9 gS9
                              have S9 : St w (bs A) (bs H) pn (bs P) ⟨#[]⟩ ⟨#[]⟩ false false wS9 := S8.up hbS9 gS9 (by simp [lcs])
                              clear hbS9 gS9 S8
                              clear st
                              go_upto_region 41 with fail
                              clear sd
                              go_cut [201] (fun c wx => wx = wS9 ∧ ((c = .bool true ∧ Hid (Q.head? = some 63)) ∨ (c = .bool false ∧ Hid (¬ Q.head? = some 63))))
                              case first =>
                                as_aux_lemma =>
                                  have HZQ := Lib.hid (bs_size Q)
                                  by_cases h0 : 0 < (bs Q).size
                                  · have HH := Lib.hid (head_get Q h0)
                                    have h0i : (0 : Int) < ((bs Q).size : Int) := by omega
                                    by_cases h63 : (bs Q)[0] = 63
                                    · have q1 : (((bs Q)[0].toNat : Int) == 63) = true := beqT _ 63 h63
                                      have HV := Lib.hid (show Q.head? = some 63 by rw [HH.out, h63])
                                      clear h63 HH
                                      go_wp2_with fail
                                      go_meet
                                      exact ⟨rfl, .inl ⟨rfl, HV⟩⟩
                                    · have q1 : (((bs Q)[0].toNat : Int) == 63) = false := beqF _ 63 h63
                                      have HV := Lib.hid (show ¬ Q.head? = some 63 by rw [HH.out]; exact fun h => h63 (Option.some.inj h))
                                      clear h63 HH
                                      go_wp2_with fail
                                      go_meet
                                      exact ⟨rfl, .inr ⟨rfl, HV⟩⟩
                                  · have h0i : ¬ (0 : Int) < ((bs Q).size : Int) := by omega
                                    have HV := Lib.hid (show ¬ Q.head? = some 63 by
                                      rw [HZQ.out] at h0
                                      rw [List.eq_nil_of_length_eq_zero (by omega : Q.length = 0)]; simp)
                                    go_wp2_with fail
                                    go_meet
                                    exact ⟨rfl, .inr ⟨rfl, HV⟩⟩
                              case rest =>
                                obtain ⟨hw, hc⟩ := hcut
                                obtain ⟨wa, hwa⟩ : ∃ W, W = wc := ⟨_, rfl⟩
                                subst hwa
                                subst hw
                                go_upto_if 201 with fail
                                go_cut [0] (fun s wx => ∃ (qu : List UInt8) (hq : Bool) (r2 : List UInt8), s = .string (bs r2) ∧ r2.length ≤ 2048 ∧ Hid (rRest A H pn pr = rFrag A H pn P qu hq r2) ∧ St w (bs A) (bs H) pn (bs P) (bs qu) ⟨#[]⟩ hq false wx)
                                case first =>
                                  as_aux_lemma =>
                                    rcases hc with ⟨rfl, HC⟩ | ⟨rfl, HC⟩
                                    · have hu := fun W => until_b Q [35] W (by omega) (by decide)
                                      have hn3 := until_le Q [35]
                                      have hn31 : 1 ≤ untilL Q [35] := by
                                        cases Q with
                                        | nil => exact absurd HC.out (by simp)
                                        | cons x t =>
                                          have e := Option.some.inj HC.out
                                          rw [e]; unfold untilL; rw [List.takeWhile_cons]; simp
                                      have HV := Lib.hid (show rRest A H pn pr = rFrag A H pn P ((Q.take (untilL Q [35])).drop 1) true (Q.drop (untilL Q [35])) by rw [HRR.out, if_pos HC.out])
                                      generalize untilL Q [35] = n3 at *
                                      have sm := fun W => sl_mid Q 1 n3 1 (n3 : Int) rfl rfl hn31 hn3 W
                                      have sd := fun W => sl_from Q n3 (n3 : Int) rfl hn3 W
                                      have hr : (Q.drop n3).length ≤ 2048 := by rw [List.length_drop]; omega
                                      clear HC HRR
                                      generalize (Q.take n3).drop 1 = qu at *
                                      generalize Q.drop n3 = r2 at *
                                      go_wp2_with fail
                                      refine (hu _).mono ?_
                                      clear hu
                                      rintro e wd ⟨rfl, bb⟩
                                      have Sc := S9.call bb
                                      clear bb S9
                                      go_wp2_with (guard_target =~ Go.wpList _ _ _ ({ dst := none, op := Go.Op.store _ _ _, type := _, pos := _, after := _, guard := none } :: _) _ _; refine st1 (b := w.heap.size + 1) (k := 6) (v := .bool true) rfl rfl Sc.a (by show _ < 8; decide) rfl Tryz.sizeOf4 ?_)
                                      intro wSd hbSd gSd
                                      have Sd : St w (bs A) (bs H) pn (bs P) ⟨#[]⟩ ⟨#[]⟩ true false wSd := Sc.up hbSd gSd (by simp [lcs])
                                      clear hbSd gSd Sc
                                      go_wp2_with (guard_target =~ Go.wpList _ _ _ ({ dst := none, op := Go.Op.store _ _ _, type := _, pos := _, after := _, guard := none } :: _) _ _; refine st1 (b := w.heap.size + 1) (k := 4) (v := .string (bs qu)) rfl rfl Sd.a (by show _ < 8; decide) rfl Tryz.sizeOf9 ?_)
                                      intro wSe hbSe gSe
                                      have Se : St w (bs A) (bs H) pn (bs P) (bs qu) ⟨#[]⟩ true false wSe := Sd.up hbSe gSe (by simp [lcs])
                                      clear hbSe gSe Sd
                                      go_wp2_with fail
                                      go_meet
                                      exact ⟨qu, true, r2, rfl, hr, HV, Se⟩
                                    · go_wp2_with fail
                                      go_meet
                                      exact ⟨[], false, Q, rfl, hQl, by show _ = _; rw [HRR.out, if_neg HC.out], S9⟩
                                case rest =>
                                  obtain ⟨qu, hq, r2, rfl, hr2, HF, Sb⟩ := hcut
                                  obtain ⟨wb, hwb⟩ : ∃ W, W = wc := ⟨_, rfl⟩
                                  subst hwb
                                  have HB6 := Lib.hid (show rParse l = rFrag A H pn P qu hq r2 by rw [HB5.out, HF.out])
                                  clear HB5 HF HRR hc S9
                                  as_aux_lemma =>
                                    have HZ2 := Lib.hid (bs_size r2)
                                    by_cases h0 : r2.length = 0
                                    · have h0i : ¬ (0 : Int) < ((bs r2).size : Int) := by rw [HZ2.out]; omega
                                      have HY := Lib.hid (show rParse l = some ⟨A, H, pn, P, qu, [], hq, false⟩ by rw [HB6.out]; unfold rFrag; rw [if_pos (List.eq_nil_of_length_eq_zero h0)])
                                      clear HB6 h0
                                      go_wp2_with (first | (guard_target =~ Go.wpList _ _ _ ({ dst := _, op := Go.Op.load 24 _, type := _, pos := _, after := _, guard := none } :: _) _ _; refine ld24 rfl Sb.a ?_) | (guard_target =~ Go.wpList _ _ _ ({ dst := none, op := Go.Op.store 24 _ _, type := _, pos := _, after := _, guard := none } :: _) _ _; refine st24 rfl rfl Sb.r ?_))
                                      intro wz hz gz
                                      go_wp2
                                      exact bodyPost_ret (by simp [results, Tryz.results12, go_sem, hz.c0, hz.c1, hz.c2, hz.c3, hz.c4, hz.c5, hz.c6, hz.c7]; rfl) rfl (RPOut.yes HY.out (Sb.out gz))
                                    · have h0i : (0 : Int) < ((bs r2).size : Int) := by rw [HZ2.out]; omega
                                      have s1 := fun W => sl_from r2 1 1 rfl (by omega) W
                                      have hfl : (r2.drop 1).length ≤ 2048 := by rw [List.length_drop]; omega
                                      have HFR := Lib.hid (show rParse l = if untilL (r2.drop 1) [35] < (r2.drop 1).length then none else some ⟨A, H, pn, P, qu, r2.drop 1, hq, true⟩ by rw [HB6.out]; unfold rFrag; rw [if_neg (fun h => h0 (by rw [h]; rfl))])
                                      clear HB6 h0
                                      generalize r2.drop 1 = fr at *
                                      go_wp2_with (guard_target =~ Go.wpList _ _ _ ({ dst := none, op := Go.Op.store _ _ _, type := _, pos := _, after := _, guard := none } :: _) _ _; refine st1 (b := w.heap.size + 1) (k := 7) (v := .bool true) rfl rfl Sb.a (by show _ < 8; decide) rfl Tryz.sizeOf4 ?_)
                                      intro wSf hbSf gSf
                                      have Sf : St w (bs A) (bs H) pn (bs P) (bs qu) ⟨#[]⟩ hq true wSf := Sb.up hbSf gSf (by simp [lcs])
                                      clear hbSf gSf Sb
                                      go_wp2_with (guard_target =~ Go.wpList _ _ _ ({ dst := none, op := Go.Op.store _ _ _, type := _, pos := _, after := _, guard := none } :: _) _ _; refine st1 (b := w.heap.size + 1) (k := 5) (v := .string (bs fr)) rfl rfl Sf.a (by show _ < 8; decide) rfl Tryz.sizeOf9 ?_)
                                      intro wSg hbSg gSg
                                      have Sg : St w (bs A) (bs H) pn (bs P) (bs qu) (bs fr) hq true wSg := Sf.up hbSg gSg (by simp [lcs])
                                      clear hbSg gSg Sf
                                      clear s1
                                      have hu : ∀ n, Calls Tryz.prog 24 #[.string (bs fr), .string ⟨#[35]⟩] (wSg.drewN n) fun e w' => e = .returned (.int .i64 (untilL fr [35])) ∧ ∃ m, w' = (wSg.drewN n).drewN m := fun n => until_any (bs fr) ⟨#[35]⟩ _ (by rw [bs_size]; omega) (by decide)
                                      have c5 := Sg.a.c5
                                      have HZF := Lib.hid (bs_size fr)
                                      generalize untilL fr [35] = n4 at *
                                      by_cases g : n4 < fr.length
                                      · have gi : (n4 : Int) < ((bs fr).size : Int) := by rw [HZF.out]; omega
                                        have gd : decide (n4 < (bs fr).size) = true := by rw [HZF.out]; simpa using g
                                        have HN := Lib.hid (show rParse l = none by rw [HFR.out, if_pos g])
                                        clear HFR g
                                        go_wp2
                                        go_quiet ((go_at_call 24; exact Calls.quiet_of (hu _)))
                                        have Sh := Sg.drewN nq
                                        generalize wSg.drewN nq = wh at *
                                        clear c5 hu Sg
                                        go_wp2_with (guard_target =~ Go.wpList _ _ _ ({ dst := none, op := Go.Op.store 24 _ _, type := _, pos := _, after := _, guard := none } :: _) _ _; refine st24 rfl rfl Sh.r ?_)
                                        intro wz hz gz
                                        go_wp2
                                        exact bodyPost_ret (by simp [results, Tryz.results12, go_sem, hz.c0, hz.c1, hz.c2, hz.c3, hz.c4, hz.c5, hz.c6, hz.c7]) rfl (RPOut.no HN.out (Sh.out gz))
                                      · have gi : ¬ (n4 : Int) < ((bs fr).size : Int) := by rw [HZF.out]; omega
                                        have gd : decide (n4 < (bs fr).size) = false := by rw [HZF.out]; simpa using g
                                        have HY := Lib.hid (show rParse l = some ⟨A, H, pn, P, qu, fr, hq, true⟩ by rw [HFR.out, if_neg g])
                                        clear HFR g
                                        go_wp2
                                        go_quiet ((go_at_call 24; exact Calls.quiet_of (hu _)))
                                        have Sh := Sg.drewN nq
                                        generalize wSg.drewN nq = wh at *
                                        clear c5 hu Sg
                                        go_wp2_with (first | (guard_target =~ Go.wpList _ _ _ ({ dst := _, op := Go.Op.load 24 _, type := _, pos := _, after := _, guard := none } :: _) _ _; refine ld24 rfl Sh.a ?_) | (guard_target =~ Go.wpList _ _ _ ({ dst := none, op := Go.Op.store 24 _ _, type := _, pos := _, after := _, guard := none } :: _) _ _; refine st24 rfl rfl Sh.r ?_))
                                        intro wz hz gz
                                        go_wp2
                                        exact bodyPost_ret (by simp [results, Tryz.results12, go_sem, hz.c0, hz.c1, hz.c2, hz.c3, hz.c4, hz.c5, hz.c6, hz.c7]) rfl (RPOut.yes HY.out (Sh.out gz))
theorem rparse_any (l : List UInt8) (w : World) : Calls Tryz.prog 12 #[.string (bs l)] w (RPOut (parseL l) w) := by
  rw [← rParse_same]
  by_cases h : 2048 < l.length
  · exact rparse_long l w h
  · exact rparse_short l w (by omega)
end Go.Proofs.YtlgggibdgfdmhaaGreatDoor
