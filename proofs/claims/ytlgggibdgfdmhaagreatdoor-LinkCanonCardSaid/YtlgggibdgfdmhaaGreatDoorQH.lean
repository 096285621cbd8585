/-
  The walk of the document's Canon of layer 4. Conditions: parts of at most a hundred thousand bytes, whose percents are whole.
-/
import Derived.Test.YtlgggibdgfdmhaaGreatDoorQG
import Derived.Deep.DeepCutAuto
import Derived.Deep.CutBlock
namespace Go.Proofs.YtlgggibdgfdmhaaGreatDoor
open Go.RowKit
open Go.Lib

set_option maxRecDepth 100000 in
set_option maxHeartbeats 8000000 in
theorem rcanon_any (p : Lk) (w : World) (hf : Fits p) (t1 : tailOk p.path = true) (t2 : tailOk p.query = true) : Calls Tryz.prog 19 #[lkV p] w (COut p w) := by
  have k1 : p.scheme.length ≤ 100000 := hf.sch
  have k2 : p.path.length ≤ 100000 := hf.path
  have k3 : p.query.length ≤ 100000 := hf.query
  have k4 : p.host.length ≤ 100000 := hf.host
  have n1 := norm_length p.path t1
  have n2 := norm_length p.query t2
  have hs1 := fun W => rsmall_any (bs p.scheme) W (by rw [bs_size]; omega)
  have hs2 := fun W => rsmall_any (bs p.host) W (by rw [bs_size]; omega)
  rw [bs_list] at hs1 hs2
  generalize hX : smallL p.scheme = X at *
  generalize hY : smallL p.host = Y at *
  have HX := Lib.hid hX
  have HY := Lib.hid hY
  clear hX hY t1 t2
  unfold lkV aggV
  go_enter Tryz.func19, Tryz.ntmps19
  go_wp2_with fail
  refine (hs1 _).mono ?_
  clear hs1
  rintro e w1 ⟨rfl, b⟩
  have S1 := cs_new w p w1 b
  clear b
  go_wp2_with (guard_target =~ Go.wpList _ _ _ ({ dst := none, op := Go.Op.store _ _ _, type := _, pos := _, after := _, guard := none } :: _) _ _; refine st1 (b := w.heap.size + 2) (k := 0) (v := .string (bs X)) rfl rfl S1.o (by show _ < 8; decide) rfl Tryz.sizeOf9 ?_)
  intro wS2 hbS2 gS2
  have S2 : CS w p (bs X) ⟨#[]⟩ 0 ⟨#[]⟩ ⟨#[]⟩ ⟨#[]⟩ false false wS2 := S1.up hbS2 gS2 (by simp [lcs])
  clear hbS2 gS2 S1
  have c1 := S2.a.c1
  go_wp2_with fail
  refine (hs2 _).mono ?_
  clear hs2 c1
  rintro e w3 ⟨rfl, b⟩
  have S3 := S2.call b
  clear b S2
  go_wp2_with (guard_target =~ Go.wpList _ _ _ ({ dst := none, op := Go.Op.store _ _ _, type := _, pos := _, after := _, guard := none } :: _) _ _; refine st1 (b := w.heap.size + 2) (k := 1) (v := .string (bs Y)) rfl rfl S3.o (by show _ < 8; decide) rfl Tryz.sizeOf9 ?_)
  intro wS4 hbS4 gS4
  have S4 : CS w p (bs X) (bs Y) 0 ⟨#[]⟩ ⟨#[]⟩ ⟨#[]⟩ false false wS4 := S3.up hbS4 gS4 (by simp [lcs])
  clear hbS4 gS4 S3
  have c0 := S4.o.c0
  have c2 := S4.a.c2
  go_upto_region 4 with fail
  go_cut [34] (fun c wx => wx = wS4 ∧ ((c = .bool true ∧ Hid (cportL X p.port = p.port)) ∨ (c = .bool false ∧ Hid (cportL X p.port = 0))))
  case first =>
    as_aux_lemma =>
      by_cases h1 : X = [104, 116, 116, 112]
      · have q1 : ((bs X).toList == ([104, 116, 116, 112] : List UInt8)) = true := by rw [toL, bs_list, h1]; decide
        have q2 : ((bs X).toList == ([104, 116, 116, 112, 115] : List UInt8)) = false := by rw [toL, bs_list, h1]; decide
        by_cases h80 : p.port = 80
        · have q3 : ((p.port : Int) == 80) = true := by rw [h80]; rfl
          have HV := Lib.hid (show cportL X p.port = 0 by rw [h1, cport_80, if_pos h80])
          clear h1 h80
          go_wp2_with fail
          go_meet
          exact ⟨rfl, .inr ⟨rfl, HV⟩⟩
        · have q3 : ((p.port : Int) == 80) = false := by rw [beq_eq_false_iff_ne]; omega
          have HV := Lib.hid (show cportL X p.port = p.port by rw [h1, cport_80, if_neg h80])
          clear h1 h80
          go_wp2_with fail
          go_meet
          exact ⟨rfl, .inl ⟨rfl, HV⟩⟩
      · have q1 : ((bs X).toList == ([104, 116, 116, 112] : List UInt8)) = false := by rw [toL, bs_list, beq_eq_false_iff_ne]; exact h1
        by_cases h2 : X = [104, 116, 116, 112, 115]
        · have q2 : ((bs X).toList == ([104, 116, 116, 112, 115] : List UInt8)) = true := by rw [toL, bs_list, h2]; decide
          by_cases h443 : p.port = 443
          · have q3 : ((p.port : Int) == 443) = true := by rw [h443]; rfl
            have HV := Lib.hid (show cportL X p.port = 0 by rw [h2, cport_443, if_pos h443])
            clear h1 h2 h443
            go_wp2_with fail
            go_meet
            exact ⟨rfl, .inr ⟨rfl, HV⟩⟩
          · have q3 : ((p.port : Int) == 443) = false := by rw [beq_eq_false_iff_ne]; omega
            have HV := Lib.hid (show cportL X p.port = p.port by rw [h2, cport_443, if_neg h443])
            clear h1 h2 h443
            go_wp2_with fail
            go_meet
            exact ⟨rfl, .inl ⟨rfl, HV⟩⟩
        · have q2 : ((bs X).toList == ([104, 116, 116, 112, 115] : List UInt8)) = false := by rw [toL, bs_list, beq_eq_false_iff_ne]; exact h2
          have HV := Lib.hid (cport_no X p.port h1 h2)
          clear h1 h2
          go_wp2_with fail
          go_meet
          exact ⟨rfl, .inl ⟨rfl, HV⟩⟩
  case rest =>
    obtain ⟨hw, hc⟩ := hcut
    obtain ⟨w5, hw5⟩ : ∃ W, W = wc := ⟨_, rfl⟩
    subst hw5
    subst hw
    clear c0 c2
    go_upto_if 34 with fail
    go_cut [] (fun wx => CS w p (bs X) (bs Y) (cportL X p.port) ⟨#[]⟩ ⟨#[]⟩ ⟨#[]⟩ false false wx)
    case first =>
      as_aux_lemma =>
        rcases hc with ⟨rfl, HV⟩ | ⟨rfl, HV⟩
        · have c2 := S4.a.c2
          go_wp2_with (guard_target =~ Go.wpList _ _ _ ({ dst := none, op := Go.Op.store _ _ _, type := _, pos := _, after := _, guard := none } :: _) _ _; refine st1 (b := w.heap.size + 2) (k := 2) (v := .int .i64 p.port) rfl rfl S4.o (by show _ < 8; decide) rfl Tryz.sizeOf3 ?_)
          intro wS5 hbS5 gS5
          have S5 : CS w p (bs X) (bs Y) p.port ⟨#[]⟩ ⟨#[]⟩ ⟨#[]⟩ false false wS5 := S4.up hbS5 gS5 (by simp [lcs])
          clear hbS5 gS5 S4
          go_wp2_with fail
          go_meet
          rw [HV.out]; exact S5
        · go_wp2_with fail
          go_meet
          rw [HV.out]; exact S4
    case rest =>
      obtain ⟨w6, hw6⟩ : ∃ W, W = wc := ⟨_, rfl⟩
      subst hw6
      have S5 := hcut
      clear hcut hc S4
      generalize hN : cportL X p.port = N at *
      have HN := Lib.hid hN
      clear hN
      have c3 := S5.a.c3
      have hno := fun W => rnormal_any p.path W (by omega)
      have hdo := fun W => rdots_any (bs (normL p.path)) W (by rw [bs_size]; omega)
      rw [bs_list] at hdo
      have HCP := Lib.hid (show cpathL p.path = if (dotsL (normL p.path)).isEmpty then [47] else dotsL (normL p.path) from rfl)
      generalize dotsL (normL p.path) = D at *
      go_wp2_with fail
      refine (hno _).mono ?_
      clear hno c3
      rintro e w7 ⟨rfl, b⟩
      have S6 := S5.call b
      clear b S5
      go_wp2_with fail
      refine (hdo _).mono ?_
      clear hdo
      rintro e w8 ⟨rfl, b⟩
      have S7 := S6.call b
      clear b S6
      go_wp2_with (guard_target =~ Go.wpList _ _ _ ({ dst := none, op := Go.Op.store _ _ _, type := _, pos := _, after := _, guard := none } :: _) _ _; refine st1 (b := w.heap.size + 2) (k := 3) (v := .string (bs D)) rfl rfl S7.o (by show _ < 8; decide) rfl Tryz.sizeOf9 ?_)
      intro wS8 hbS8 gS8
      have S8 : CS w p (bs X) (bs Y) N (bs D) ⟨#[]⟩ ⟨#[]⟩ false false wS8 := S7.up hbS8 gS8 (by simp [lcs])
      clear hbS8 gS8 S7
      have c3 := S8.o.c3
      go_upto_region 7 with fail
      go_cut [45] (fun c wx => wx = wS8 ∧ ((c = .bool true ∧ Hid (D = [])) ∨ (c = .bool false ∧ Hid (¬ D = []))))
      case first =>
        as_aux_lemma =>
          by_cases hD : D = []
          · have q : ((bs D).toList == ([] : List UInt8)) = true := by rw [toL, bs_list, hD]; rfl
            have HV := Lib.hid hD
            clear hD
            go_wp2_with fail
            go_meet
            exact ⟨rfl, .inl ⟨rfl, HV⟩⟩
          · have q : ((bs D).toList == ([] : List UInt8)) = false := by rw [toL, bs_list, beq_eq_false_iff_ne]; exact hD
            have HV := Lib.hid hD
            clear hD
            go_wp2_with fail
            go_meet
            exact ⟨rfl, .inr ⟨rfl, HV⟩⟩
      case rest =>
        obtain ⟨hw, hc⟩ := hcut
        obtain ⟨wm, hwm⟩ : ∃ W, W = wc := ⟨_, rfl⟩
        subst hwm
        subst hw
        clear c3
        go_upto_if 45 with fail
        go_cut [45] (fun _ wx => CS w p (bs X) (bs Y) N (bs (cpathL p.path)) ⟨#[]⟩ ⟨#[]⟩ false false wx)
        case first =>
          as_aux_lemma =>
            rcases hc with ⟨rfl, HD⟩ | ⟨rfl, HD⟩
            · have HV := Lib.hid (show cpathL p.path = [47] by rw [HCP.out, HD.out]; rfl)
              go_wp2_with (guard_target =~ Go.wpList _ _ _ ({ dst := none, op := Go.Op.store _ _ _, type := _, pos := _, after := _, guard := none } :: _) _ _; refine st1 (b := w.heap.size + 2) (k := 3) (v := .string ⟨#[47]⟩) rfl rfl S8.o (by show _ < 8; decide) rfl Tryz.sizeOf9 ?_)
              intro wS9 hbS9 gS9
              have S9 : CS w p (bs X) (bs Y) N (bs [47]) ⟨#[]⟩ ⟨#[]⟩ false false wS9 := S8.up hbS9 gS9 (by simp [lcs]; rfl)
              clear hbS9 gS9 S8
              go_wp2_with fail
              go_meet
              rw [HV.out]; exact S9
            · have HV := Lib.hid (show cpathL p.path = D by rw [HCP.out, if_neg (by simpa using HD.out)])
              go_wp2_with fail
              go_meet
              rw [HV.out]; exact S8
        case rest =>
          obtain ⟨w9, hw9⟩ : ∃ W, W = wc := ⟨_, rfl⟩
          subst hw9
          have S9 := hcut
          clear hcut hc S8 HCP
          generalize hP : cpathL p.path = P at *
          have HP := Lib.hid hP
          clear hP
          as_aux_lemma =>
            have c4 := S9.a.c4
            have hno := fun W => rnormal_any p.query W (by omega)
            have hsp := fun W => rsplit_any (bs (normL p.query)) 38 W (by rw [bs_size]; omega)
            rw [bs_list] at hsp
            unfold SplitOut at hsp
            have HCQ := Lib.hid (show cqueryL p.query = joinP 38 ((splitP 38 (normL p.query)).filter (fun x => !utmB x)) from rfl)
            have hsl := split_length 38 (normL p.query)
            have hsm := fun x hx => split_mem 38 (normL p.query) x hx
            have hsp0 := splitP_ne 38 (normL p.query)
            generalize normL p.query = NQ at *
            generalize splitP 38 NQ = xs at *
            have HSM := Lib.hid (show ∀ x ∈ xs, x.length ≤ 100000 from fun x hx => by have := hsm x hx; omega)
            have hxl : xs.length ≤ 100001 := by omega
            clear hsm hsl
            go_wp2_with fail
            refine (hno _).mono ?_
            clear hno c4
            rintro e wa ⟨rfl, b⟩
            have Sa := S9.call b
            clear b S9
            go_wp2_with fail
            refine (hsp _).mono ?_
            clear hsp
            rintro e wb ⟨vs, rfl, hown, b⟩
            have Sb := Sa.call b
            obtain ⟨gx, capx, rfl, hgb, hgx, hcx⟩ := ownS_at hown hsp0
            have hgz : w.heap.size + 2 < gx := Nat.lt_of_lt_of_le Sa.o.lt hgb
            have HCX := Lib.hid hcx
            clear hown hcx hsp0 b Sa hgb
            go_wp2
            go_loopw [4, 52] (fun n i wr => ∃ (k : Nat) (kept : List (List UInt8)), k ≤ xs.length ∧ i = .int .i64 k ∧ n = .int .i64 kept.length ∧ kept.length ≤ k ∧ (joinP 38 kept).length ≤ 100001 * k ∧ CS w p (bs X) (bs Y) N (bs P) (bs (joinP 38 kept)) ⟨#[]⟩ false false wr ∧ wb.grownBy wr (some (w.heap.size + 2)) ∧ Hid (kept = (xs.take k).filter (fun x => !utmB x))) (fun _ i _ => xs.length - (RowKit.intOf i).toNat)
            case atStart => exact ⟨0, [], Nat.zero_le _, rfl, rfl, Nat.le_refl _, by simp [joinP], Sb, World.grownBy.refl _ _, by show _ = _; rfl⟩
            case round =>
              obtain ⟨k, kept, hk, rfl, rfl, hkl, hjl, Sc, hg, hac⟩ := hrel
              clear Sb
              by_cases hlk : k < xs.length
              · have hx := HCX.out k (bs xs[k]) (by rw [List.getElem?_map, List.getElem?_eq_getElem hlk]; rfl)
                rw [Nat.zero_add] at hx
                have hx2 := hg.cell hx (by simp; omega)
                have HKS := Lib.hid (keep_snoc xs k hlk)
                have hxl2 : xs[k].length ≤ 100000 := HSM.out _ (List.getElem_mem hlk)
                have HZX := Lib.hid (bs_size xs[k])
                have HUT := Lib.hid (utm_take xs[k])
                clear hx
                generalize xs[k] = x at *
                have c4 := Sc.o.c4
                cases hu : utmB x with
                | true =>
                  have HV := Lib.hid (show kept = (xs.take (k + 1)).filter (fun x => !utmB x) by rw [HKS.out, hu, if_pos rfl, List.append_nil]; exact hac.out)
                  have h4 : 4 ≤ x.length := by
                    have h := HUT.out
                    rw [hu] at h
                    have := congrArg List.length (beq_iff_eq.1 h.symm)
                    rw [List.length_take] at this
                    simp at this
                    omega
                  have h4i : (4 : Int) ≤ ((bs x).size : Int) := by rw [HZX.out]; omega
                  have st : ∀ W, (Instr.slice 9 (.string (bs x)) none (some (.int .i64 4)) none).run Tryz.prog W = .ok (.string (bs (x.take 4))) W := fun W => sl_to x 4 (by omega) W
                  have q : ((bs (x.take 4)).toList == ([117, 116, 109, 95] : List UInt8)) = true := by rw [toL, bs_list, ← HUT.out, hu]
                  clear hu HUT HKS hac
                  generalize x.take 4 = x4 at *
                  go_wp2
                  go_roundw
                  case rel => exact ⟨k + 1, kept, by omega, by go_num, rfl, by omega, by omega, Sc, hg, HV⟩
                  case measure => simp [RowKit.intOf]; omega
                | false =>
                  have HV := Lib.hid (show kept ++ [x] = (xs.take (k + 1)).filter (fun x => !utmB x) by rw [HKS.out, hu, if_neg (by decide), ← hac.out])
                  have HQ4 := Lib.hid (show (x.take 4 == [117, 116, 109, 95]) = false by rw [← HUT.out, hu])
                  clear hu HUT HKS hac
                  as_aux_lemma =>
                    by_cases h4 : 4 ≤ x.length
                    · have h4i : (4 : Int) ≤ ((bs x).size : Int) := by rw [HZX.out]; omega
                      have st : ∀ W, (Instr.slice 9 (.string (bs x)) none (some (.int .i64 4)) none).run Tryz.prog W = .ok (.string (bs (x.take 4))) W := fun W => sl_to x 4 (by omega) W
                      have q : ((bs (x.take 4)).toList == ([117, 116, 109, 95] : List UInt8)) = false := by rw [toL, bs_list]; exact HQ4.out
                      clear HQ4
                      generalize x.take 4 = x4 at *
                      by_cases hke : kept = []
                      · have HK := Lib.hid (show joinP 38 (kept ++ [x]) = joinP 38 kept ++ x by rw [hke]; rfl)
                        have hjl2 : (joinP 38 (kept ++ [x])).length ≤ 100001 * (k + 1) := by rw [HK.out, List.length_append]; omega
                        have hn0 : ¬ (0 : Int) < (kept.length : Int) := by rw [hke]; simp
                        have a1 := add_big (joinP 38 kept) x _ rfl (by omega)
                        rw [← HK.out] at a1
                        clear hke
                        go_wp2_with (guard_target =~ Go.wpList _ _ _ ({ dst := none, op := Go.Op.store _ _ _, type := _, pos := _, after := _, guard := none } :: _) _ _; refine st1 (b := w.heap.size + 2) (k := 4) (v := .string (bs (joinP 38 (kept ++ [x])))) rfl rfl Sc.o (by show _ < 8; decide) rfl Tryz.sizeOf9 ?_)
                        intro wSe hbSe gSe
                        have Se : CS w p (bs X) (bs Y) N (bs P) (bs (joinP 38 (kept ++ [x]))) ⟨#[]⟩ false false wSe := Sc.up hbSe gSe (by simp [lcs])
                        clear hbSe Sc
                        have grow2 := World.grownBy.trans hg gSe
                        clear gSe
                        go_wp2
                        go_roundw
                        case rel => exact ⟨k + 1, kept ++ [x], by omega, by go_num, by simp, by simp; omega, hjl2, Se, grow2, HV⟩
                        case measure => simp [RowKit.intOf]; omega
                      · have HK := Lib.hid (join_snoc 38 x kept hke)
                        have hjl2 : (joinP 38 (kept ++ [x])).length ≤ 100001 * (k + 1) := by rw [HK.out, List.length_append, List.length_append]; simp only [List.length_singleton]; omega
                        have hn0 : (0 : Int) < (kept.length : Int) := by
                          have : kept.length ≠ 0 := fun h => hke (List.eq_nil_of_length_eq_zero h)
                          omega
                        have a0 := add_big (joinP 38 kept) [38] _ rfl (by simp; omega)
                        rw [show bs [38] = ⟨#[38]⟩ from rfl] at a0
                        have a1 := add_big (joinP 38 kept ++ [38]) x _ rfl (by simp; omega)
                        rw [← HK.out] at a1
                        clear hke
                        go_wp2_with (guard_target =~ Go.wpList _ _ _ ({ dst := none, op := Go.Op.store _ _ _, type := _, pos := _, after := _, guard := none } :: _) _ _; refine st1 (b := w.heap.size + 2) (k := 4) (v := .string (bs (joinP 38 kept ++ [38]))) rfl rfl Sc.o (by show _ < 8; decide) rfl Tryz.sizeOf9 ?_)
                        intro wSd hbSd gSd
                        have Sd : CS w p (bs X) (bs Y) N (bs P) (bs (joinP 38 kept ++ [38])) ⟨#[]⟩ false false wSd := Sc.up hbSd gSd (by simp [lcs])
                        clear hbSd Sc
                        have c4 := Sd.o.c4
                        go_wp2_with (guard_target =~ Go.wpList _ _ _ ({ dst := none, op := Go.Op.store _ _ _, type := _, pos := _, after := _, guard := none } :: _) _ _; refine st1 (b := w.heap.size + 2) (k := 4) (v := .string (bs (joinP 38 (kept ++ [x])))) rfl rfl Sd.o (by show _ < 8; decide) rfl Tryz.sizeOf9 ?_)
                        intro wSe hbSe gSe
                        have Se : CS w p (bs X) (bs Y) N (bs P) (bs (joinP 38 (kept ++ [x]))) ⟨#[]⟩ false false wSe := Sd.up hbSe gSe (by simp [lcs])
                        clear hbSe Sd
                        have grow2 := World.grownBy.trans (World.grownBy.trans hg gSd) gSe
                        clear gSd gSe
                        go_wp2
                        go_roundw
                        case rel => exact ⟨k + 1, kept ++ [x], by omega, by go_num, by simp, by simp; omega, hjl2, Se, grow2, HV⟩
                        case measure => simp [RowKit.intOf]; omega
                    · have h4i : ¬ (4 : Int) ≤ ((bs x).size : Int) := by rw [HZX.out]; omega
                      clear HQ4
                      by_cases hke : kept = []
                      · have HK := Lib.hid (show joinP 38 (kept ++ [x]) = joinP 38 kept ++ x by rw [hke]; rfl)
                        have hjl2 : (joinP 38 (kept ++ [x])).length ≤ 100001 * (k + 1) := by rw [HK.out, List.length_append]; omega
                        have hn0 : ¬ (0 : Int) < (kept.length : Int) := by rw [hke]; simp
                        have a1 := add_big (joinP 38 kept) x _ rfl (by omega)
                        rw [← HK.out] at a1
                        clear hke
                        go_wp2_with (guard_target =~ Go.wpList _ _ _ ({ dst := none, op := Go.Op.store _ _ _, type := _, pos := _, after := _, guard := none } :: _) _ _; refine st1 (b := w.heap.size + 2) (k := 4) (v := .string (bs (joinP 38 (kept ++ [x])))) rfl rfl Sc.o (by show _ < 8; decide) rfl Tryz.sizeOf9 ?_)
                        intro wSe hbSe gSe
                        have Se : CS w p (bs X) (bs Y) N (bs P) (bs (joinP 38 (kept ++ [x]))) ⟨#[]⟩ false false wSe := Sc.up hbSe gSe (by simp [lcs])
                        clear hbSe Sc
                        have grow2 := World.grownBy.trans hg gSe
                        clear gSe
                        go_wp2
                        go_roundw
                        case rel => exact ⟨k + 1, kept ++ [x], by omega, by go_num, by simp, by simp; omega, hjl2, Se, grow2, HV⟩
                        case measure => simp [RowKit.intOf]; omega
                      · have HK := Lib.hid (join_snoc 38 x kept hke)
                        have hjl2 : (joinP 38 (kept ++ [x])).length ≤ 100001 * (k + 1) := by rw [HK.out, List.length_append, List.length_append]; simp only [List.length_singleton]; omega
                        have hn0 : (0 : Int) < (kept.length : Int) := by
                          have : kept.length ≠ 0 := fun h => hke (List.eq_nil_of_length_eq_zero h)
                          omega
                        have a0 := add_big (joinP 38 kept) [38] _ rfl (by simp; omega)
                        rw [show bs [38] = ⟨#[38]⟩ from rfl] at a0
                        have a1 := add_big (joinP 38 kept ++ [38]) x _ rfl (by simp; omega)
                        rw [← HK.out] at a1
                        clear hke
                        go_wp2_with (guard_target =~ Go.wpList _ _ _ ({ dst := none, op := Go.Op.store _ _ _, type := _, pos := _, after := _, guard := none } :: _) _ _; refine st1 (b := w.heap.size + 2) (k := 4) (v := .string (bs (joinP 38 kept ++ [38]))) rfl rfl Sc.o (by show _ < 8; decide) rfl Tryz.sizeOf9 ?_)
                        intro wSd hbSd gSd
                        have Sd : CS w p (bs X) (bs Y) N (bs P) (bs (joinP 38 kept ++ [38])) ⟨#[]⟩ false false wSd := Sc.up hbSd gSd (by simp [lcs])
                        clear hbSd Sc
                        have c4 := Sd.o.c4
                        go_wp2_with (guard_target =~ Go.wpList _ _ _ ({ dst := none, op := Go.Op.store _ _ _, type := _, pos := _, after := _, guard := none } :: _) _ _; refine st1 (b := w.heap.size + 2) (k := 4) (v := .string (bs (joinP 38 (kept ++ [x])))) rfl rfl Sd.o (by show _ < 8; decide) rfl Tryz.sizeOf9 ?_)
                        intro wSe hbSe gSe
                        have Se : CS w p (bs X) (bs Y) N (bs P) (bs (joinP 38 (kept ++ [x]))) ⟨#[]⟩ false false wSe := Sd.up hbSe gSe (by simp [lcs])
                        clear hbSe Sd
                        have grow2 := World.grownBy.trans (World.grownBy.trans hg gSd) gSe
                        clear gSd gSe
                        go_wp2
                        go_roundw
                        case rel => exact ⟨k + 1, kept ++ [x], by omega, by go_num, by simp, by simp; omega, hjl2, Se, grow2, HV⟩
                        case measure => simp [RowKit.intOf]; omega
              · have hks : ¬ (k : Int) < (xs.length : Int) := by omega
                have HQ := Lib.hid (show cqueryL p.query = joinP 38 kept by rw [HCQ.out, hac.out, List.take_of_length_le (by omega)])
                clear HCQ hac hlk
                generalize joinP 38 kept = Q at *
                have c4 := Sc.o.c4
                by_cases hQ : Q = []
                · have q : ((bs Q).toList == ([] : List UInt8)) = true := by rw [toL, bs_list, hQ]; rfl
                  have hbq : (!Q.isEmpty) = false := by rw [hQ]; rfl
                  have HBQ := Lib.hid hbq
                  clear hQ hbq
                  as_aux_lemma =>
                    go_wp2_with (guard_target =~ Go.wpList _ _ _ ({ dst := none, op := Go.Op.store _ _ _, type := _, pos := _, after := _, guard := none } :: _) _ _; refine st1 (b := w.heap.size + 2) (k := 6) (v := .bool false) rfl rfl Sc.o (by show _ < 8; decide) rfl Tryz.sizeOf4 ?_)
                    intro wSf hbSf gSf
                    have Sf : CS w p (bs X) (bs Y) N (bs P) (bs Q) ⟨#[]⟩ false false wSf := Sc.up hbSf gSf (by simp [lcs])
                    clear hbSf gSf Sc
                    clear c4
                    go_wp2_with (first | (guard_target =~ Go.wpList _ _ _ ({ dst := _, op := Go.Op.load 24 _, type := _, pos := _, after := _, guard := none } :: _) _ _; refine ld24 rfl Sf.o ?_) | (guard_target =~ Go.wpList _ _ _ ({ dst := none, op := Go.Op.store 24 _ _, type := _, pos := _, after := _, guard := none } :: _) _ _; refine st24 rfl rfl Sf.r ?_))
                    intro wz hz gz
                    go_wp2
                    refine bodyPost_ret (v := .agg #[.string (bs X), .string (bs Y), .int .i64 N, .string (bs P), .string (bs Q), .string ⟨#[]⟩, .bool false, .bool false]) ?_ rfl (COut.mk HX.out HY.out HN.out HP.out HQ.out HBQ.out (Sf.out gz))
                    have c0 := LB.c0 hz
                    have c1 := LB.c1 hz
                    have c2 := LB.c2 hz
                    have c3 := LB.c3 hz
                    have c4 := LB.c4 hz
                    have c5 := LB.c5 hz
                    have c6 := LB.c6 hz
                    have c7 := LB.c7 hz
                    clear gz hz Sf
                    as_aux_lemma => simp [results, Tryz.results19, go_sem, c0, c1, c2, c3, c4, c5, c6, c7]
                · have q : ((bs Q).toList == ([] : List UInt8)) = false := by rw [toL, bs_list, beq_eq_false_iff_ne]; exact hQ
                  have hbq : (!Q.isEmpty) = true := by simpa using hQ
                  have HBQ := Lib.hid hbq
                  clear hQ hbq
                  as_aux_lemma =>
                    go_wp2_with (guard_target =~ Go.wpList _ _ _ ({ dst := none, op := Go.Op.store _ _ _, type := _, pos := _, after := _, guard := none } :: _) _ _; refine st1 (b := w.heap.size + 2) (k := 6) (v := .bool true) rfl rfl Sc.o (by show _ < 8; decide) rfl Tryz.sizeOf4 ?_)
                    intro wSf hbSf gSf
                    have Sf : CS w p (bs X) (bs Y) N (bs P) (bs Q) ⟨#[]⟩ true false wSf := Sc.up hbSf gSf (by simp [lcs])
                    clear hbSf gSf Sc
                    clear c4
                    go_wp2_with (first | (guard_target =~ Go.wpList _ _ _ ({ dst := _, op := Go.Op.load 24 _, type := _, pos := _, after := _, guard := none } :: _) _ _; refine ld24 rfl Sf.o ?_) | (guard_target =~ Go.wpList _ _ _ ({ dst := none, op := Go.Op.store 24 _ _, type := _, pos := _, after := _, guard := none } :: _) _ _; refine st24 rfl rfl Sf.r ?_))
                    intro wz hz gz
                    go_wp2
                    refine bodyPost_ret (v := .agg #[.string (bs X), .string (bs Y), .int .i64 N, .string (bs P), .string (bs Q), .string ⟨#[]⟩, .bool true, .bool false]) ?_ rfl (COut.mk HX.out HY.out HN.out HP.out HQ.out HBQ.out (Sf.out gz))
                    have c0 := LB.c0 hz
                    have c1 := LB.c1 hz
                    have c2 := LB.c2 hz
                    have c3 := LB.c3 hz
                    have c4 := LB.c4 hz
                    have c5 := LB.c5 hz
                    have c6 := LB.c6 hz
                    have c7 := LB.c7 hz
                    clear gz hz Sf
                    as_aux_lemma => simp [results, Tryz.results19, go_sem, c0, c1, c2, c3, c4, c5, c6, c7]
end Go.Proofs.YtlgggibdgfdmhaaGreatDoor
