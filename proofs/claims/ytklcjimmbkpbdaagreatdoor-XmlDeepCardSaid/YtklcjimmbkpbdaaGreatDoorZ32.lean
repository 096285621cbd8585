/-
  Of the proofs of layer 8 (elements of XML): the parts YOc YOe. No conditions.
-/
import Derived.Test.YtklcjimmbkpbdaaGreatDoorZ31
import Derived.Deep.DeepCutAuto
namespace Go.Proofs.YtklcjimmbkpbdaaGreatDoor
open Go.RowKit
open Go.Lib
set_option maxRecDepth 100000 in
set_option maxHeartbeats 4000000 in
theorem telem8 {d : Nat} (hd : d ≤ 24) (hEl : d ≤ 23 → ElC (d + 1)) : ElC d := fun X s r w TV A c sc h hs hTVr hTV hsc hfd => by
 have hs9 : s.length ≤ 1000000000 := by omega
 have hXl := h.lt
 have hrs := h.le
 have HMK := hid (fun W q (hW : TL X s q W) oo (hoo : markL q = oo) => tmark8 hW hs9 oo hoo)
 unfold MkO at HMK
 have HTG := hid (fun W q (hW : TL X s q W) oo (hoo : tagL q = oo) => ttag8 hW (by omega) oo hoo)
 unfold TgO at HTG
 have HBL := hid (fun W q (hW : TL X s q W) => tblanks8 hW hs9)
 have HW1 : Hid (WdC X s [60, 47] ⟨#[60, 47]⟩) := hid (wdC X hs9 [60, 47] (by decide) (by decide))
 have HW2 : Hid (WdC X s [62] ⟨#[62]⟩) := hid (wdC X hs9 [62] (by decide) (by decide))
 unfold WdC at HW1 HW2
 have HQ := hid (elemX_eq d sc r)
 obtain ⟨o, ho⟩ : ∃ o, elemX d sc r = o := ⟨_, rfl⟩
 rw [ho] at HQ ⊢
 have hB := below_alloc8 w ZN
 obtain ⟨R, hR⟩ : ∃ R, w.heap.size = R := ⟨_, rfl⟩
 have hRb := Blk.new ZN w
 rw [hR] at hRb
 have hRw : w.heap.size ≤ R := by omega
 have hXR : X < R := by omega
 have HT0 := hid (h.below hB)
 have HR0 := hid hRb
 have HO0 : Hid (OX X w (w.alloc ZN)) := hid (OX.of hB)
 have hs0 : (w.alloc ZN).heap.size = R + 1 := by simp [hR]
 have HSPR := hid hTVr
 have HTV := hid hTV
 have HSC := hid hsc
 have HFD := hid hfd
 have HEL := hid hEl
 have HS9 := hid hs
 have hscl : sc.length ≤ 100000 := by omega
 have hsc0 : 0 < sc.length := by cases sc with | nil => cases hfd | cons => simp
 obtain ⟨nS, hnS⟩ : ∃ n, sc.length = n := ⟨_, rfl⟩
 have HNS := hid hnS
 rw [hnS] at hscl hsc0 ⊢
 clear h ho hB hRb hTVr hTV hsc hfd hEl hs hs9 hnS
 cases h1 : markL r with
 | none =>
  have HF : Hid (o = .error 70) := hid (by rw [HQ.out, h1])
  have HC1 := hid (HMK.out _ r HT0.out _ h1)
  clear h1 HQ
  go_enter Tryz.func34, Tryz.ntmps34
  go_wp2_with fail
  refine HC1.out.mono ?_
  rintro e w1 ⟨o1, a, b, c, d, _, rfl, _⟩
  have b2 := below_alloc8 w1 (.cells #[sV a, sV b, sV c, .bool d] TMk (0, 0))
  have hRx := (Off.of_below b2).blk (o1.blk HR0.out (fun e => by omega)) (fun h => h)
  have HOx := hid (OX.trans (OX.trans HO0.out o1) (OX.of b2))
  clear b2 o1
  go_wp2_with (guard_target =~ Go.wpList _ _ _ ({ dst := none, op := Go.Op.store TNo _ _, type := _, pos := _, after := _, guard := none } :: _) _ _; refine stN5 rfl rfl (all5 rfl rfl rfl rfl rfl) hRx ?_)
  intro wz hz oz
  have d0 := hz.cell 0
  have d1 := hz.cell 1
  have d2 := hz.cell 2
  have d3 := hz.cell 3
  have d4 := hz.cell 4
  have HOz := hid (OX.new HOx.out oz hRw)
  clear hz oz
  go_wp2
  refine bodyPost_ret (v := .tuple #[zNV, .int .i64 70]) ?_ rfl ?_
  ·simp [results, Tryz.results34, go_sem, d0, d1, d2, d3, d4]
  exact ElO.bad HF.out (by decide) HOz.out
 | some y =>
  obtain ⟨⟨pn, nn⟩, s1⟩ := y
  have HVN := hid (mark_valid h1).1
  have HC1 := hid (HMK.out _ r HT0.out _ h1)
  have hl1 := mark_len h1
  obtain ⟨hbN, hhbN⟩ : ∃ b, (!(pn == ([] : Bt))) = b := ⟨_, rfl⟩
  have HC1b : Hid (Calls Tryz.prog 56 #[.pointer (some ⟨X, 0, none⟩)] (w.alloc ZN) (fun e w' => OX X (w.alloc ZN) w' ∧ e = .returned (.tuple #[.agg #[sV pn, sV nn, .string ⟨#[]⟩, .bool hbN], .bool true]) ∧ TL X s s1 w')) := hid (HC1.out.mono (fun e w' h => ⟨h.1, by have h2 := h.2.1; unfold MkA at h2; simp only at h2; rw [hhbN] at h2; exact h2, h.2.2⟩))
  have HHBN := hid hhbN
  clear HC1 hhbN
  cases h2 : tagL s1 with
  | none =>
   have HF : Hid (o = .error 70) := hid (by rw [HQ.out, h1]; simp only [h2])
   have HC2 := hid (fun W hW => HTG.out W s1 hW _ h2)
   clear h1 h2 HQ
   go_enter Tryz.func34, Tryz.ntmps34
   go_wp2_with fail
   refine HC1b.out.mono ?_
   rintro e w1 ⟨o1, rfl, t1⟩
   have b2 := below_alloc8 w1 (.cells #[sV pn, sV nn, .string ⟨#[]⟩, .bool hbN] TMk (0, 0))
   have t2 := t1.below b2
   go_wp2_with fail
   refine (HC2.out _ t2).mono ?_
   rintro e w3 ⟨o3, rfl⟩
   have o13 := OX.trans (OX.trans o1 (OX.of b2)) o3
   have hRx := o13.blk HR0.out (fun e => by omega)
   have HOx := hid (OX.trans HO0.out o13)
   clear t1 b2 t2 o3 o1 o13
   go_wp2_with (guard_target =~ Go.wpList _ _ _ ({ dst := none, op := Go.Op.store TNo _ _, type := _, pos := _, after := _, guard := none } :: _) _ _; refine stN5 rfl rfl (all5 rfl rfl rfl rfl rfl) hRx ?_)
   intro wz hz oz
   have d0 := hz.cell 0
   have d1 := hz.cell 1
   have d2 := hz.cell 2
   have d3 := hz.cell 3
   have d4 := hz.cell 4
   have HOz := hid (OX.new HOx.out oz hRw)
   clear hz oz
   go_wp2
   refine bodyPost_ret (v := .tuple #[zNV, .int .i64 70]) ?_ rfl ?_
   ·simp [results, Tryz.results34, go_sem, d0, d1, d2, d3, d4]
   exact ElO.bad HF.out (by decide) HOz.out
  | some y =>
   obtain ⟨ms, cl, s2⟩ := y
   have HC2 := hid (fun W hW => HTG.out W s1 hW _ h2)
   have HNMS := hid (tag_names h2)
   have htp := (tag_parts _ (Nat.le_refl _) h2).2
   have HBAD : Hid (startX sc (pn, nn) ms = none → o = .error 70) := hid (fun h => by rw [HQ.out, h1]; simp only [h2, h])
   have HGOOD : Hid (∀ nd sc', startX sc (pn, nn) ms = some (nd, sc') → o = if d = 24 then .error 71 else if cl = true then .ok (nd, s2) else match kidsX (d + 1) sc' s2 [] [] with
    | .error e => .error e
    | .ok (ks, s3) => match (match markL s3 with | none => none | some (nm', r) => if nm' = (pn, nn) then wordL [62] (blanksL r) else none) with
     | none => .error 70
     | some s4 => .ok (nd.withKids ks, s4)) := hid (fun nd sc' h => by
    rw [HQ.out, h1]
    simp only [h2, h]
    simp only [end_mark HVN.out]
    rfl)
   obtain ⟨nM, hnM⟩ : ∃ n, ms.length = n := ⟨_, rfl⟩
   have HNM := hid hnM
   rw [hnM] at htp
   have hnM9 : nM + s2.length ≤ 65536 := by have := HS9.out; omega
   have HDL := hid (fun k => decls_len (ms.take k))
   clear h1 h2 HQ hnM
   go_enter Tryz.func34, Tryz.ntmps34
   go_wp2_with fail
   refine HC1b.out.mono ?_
   rintro e w1 ⟨o1, rfl, t1⟩
   have b2 := below_alloc8 w1 (.cells #[sV pn, sV nn, .string ⟨#[]⟩, .bool hbN] TMk (0, 0))
   obtain ⟨M, hM⟩ : ∃ M, w1.heap.size = M := ⟨_, rfl⟩
   have hMb := Blk.new (.cells #[sV pn, sV nn, .string ⟨#[]⟩, .bool hbN] TMk (0, 0)) w1
   rw [hM] at hMb
   have hs2x : (w1.alloc (.cells #[sV pn, sV nn, .string ⟨#[]⟩, .bool hbN] TMk (0, 0))).heap.size = M + 1 := by simp [hM]
   have t2 := t1.below b2
   have hRM : R < M := by have := o1.size; omega
   go_wp2_with fail
   refine (HC2.out _ t2).mono ?_
   rintro e w3 ⟨o3, Aq, cq, rfl, hcq, hrq, t3⟩
   have hw3 : M + 1 ≤ w3.heap.size := by have := o3.size; omega
   have o13 := OX.trans (OX.trans o1 (OX.of b2)) o3
   have HE3 : Hid (E1S X R M w3.heap.size #[sV pn, sV nn, .string ⟨#[]⟩, .bool hbN] w s s2 Aq ms w3) := hid ⟨o13.blk HR0.out (fun e => by omega), o3.blk hMb (fun e => by omega), OX.trans HO0.out o13, t3, hrq.mono (fun b hb => hb.2), by omega, by omega, by omega, by omega, Nat.le_refl _⟩
   have HSP3 := hid ((HSPR.out.off (OX.trans HO0.out o13) (fun b hb e => HTV.out b hb e)))
   have HCQ : Hid (nM ≤ cq) := hid (by rw [← HNM.out]; exact hcq)
   rw [HNM.out]
   clear t1 t2 b2 o1 hMb hs2x o3 hcq hrq t3 o13 HC1b HC2 HT0 HR0 HO0
   obtain ⟨B, hB⟩ : ∃ B, w3.heap.size = B := ⟨_, rfl⟩
   rw [hB] at HE3 hw3
   have HB3 := hid hB
   have hB3 : B ≤ w3.heap.size := Nat.le_of_eq hB.symm
   clear hM hB
   go_wp2_with (at_builtin; refine appSp rfl _ _ rfl w3 B HSP3.out HNS.out hsc0 (by omega) rfl rfl hB3 ?_)
   intro v12 w4 hown hoff
   have HE4 := hid (HE3.out.step hoff (fun b hb => by omega))
   have HOW4 : Hid (w4.ownsRow B TSp 2 v12 nS (cS (sc ++ declsX (ms.take 0))) ∧ nS = (sc ++ declsX (ms.take 0)).length) := hid (by
    rw [List.take_zero, show declsX [] = [] from rfl, List.append_nil]
    exact ⟨hown, HNS.out.symm⟩)
   have HG0 : Hid (G1 (ms.take 0)) := hid (by rw [List.take_zero]; exact G1.nil)
   clear hown hoff HE3 HSP3
   go_wp2
   go_loopw [12, 51] (fun v12 i wr => ∃ (k n12 : Nat), k ≤ nM ∧ i = .int .i64 k ∧ Hid (E1S X R M B #[sV pn, sV nn, .string ⟨#[]⟩, .bool hbN] w s s2 Aq ms wr) ∧ Hid (wr.ownsRow B TSp 2 v12 n12 (cS (sc ++ declsX (ms.take k))) ∧ n12 = (sc ++ declsX (ms.take k)).length) ∧ Hid (G1 (ms.take k))) (fun _ i _ => nM - (RowKit.intOf i).toNat)
   case atStart => exact ⟨0, nS, Nat.zero_le _, rfl, HE4, HOW4, HG0⟩
   case round =>
    clear HE4 HOW4 HG0
    obtain ⟨k, n12, hk, rfl, HE1, HOW, HG⟩ := hrel
    obtain ⟨W0, hW0⟩ : ∃ W0, W0 = wr := ⟨_, rfl⟩
    subst hW0
    by_cases hlt : k < nM
    ·have hkl : k < ms.length := by rw [HNM.out]; exact hlt
     obtain ⟨bb, off, hAe, hT, hbl, hcl⟩ := HE1.out.row (by rw [cQ_len]; omega)
     obtain ⟨c0, c1, c2, c3⟩ := RC.q4 hcl k hkl
     have hnm0 := HNMS.out _ (List.getElem_mem hkl)
     have HGO := hid (fun (h : declX ms[k] = none) => G1.other hkl h HG.out)
     have HGD := hid (fun q (h : declX ms[k] = some q) (hb : badD (q, ms[k].2) = false) (hj : ∀ j (hj : j < ms.length), j < k → ms[j].1 ≠ ms[k].1) => G1.decl hkl HNMS.out h hb hj HG.out)
     have HBV : Hid (∀ q, declX ms[k] = some q → badD (q, ms[k].2) = true → o = .error 70) := hid (fun q h hb => HBAD.out (start_scope_none (scope_bad hkl rfl h hb)))
     have HDU : Hid (∀ q j (hj : j < k), declX ms[k] = some q → (ms[j]'(by omega)).1 = ms[k].1 → o = .error 70) := hid (fun q j hj h he => HBAD.out (start_scope_none (scope_dup hkl hj h he)))
     obtain ⟨m, hm⟩ : ∃ m, ms[k] = m := ⟨_, rfl⟩
     rw [hm] at c0 c1 c2 c3 hnm0 HGO HGD HBV HDU
     obtain ⟨⟨⟨p, n⟩, v⟩, rfl⟩ : ∃ x : XM, m = x := ⟨_, rfl⟩
     simp only at c0 c1 c2 c3 hnm0
     subst hAe
     have hnS9 : n12 ≤ 200000 := by have h1 := HOW.out.2; have h2 := HDL.out k; rw [List.length_append, HNS.out] at h1; have := List.length_take_le k ms; omega
     have HN0 := hid hnm0
     clear hm hcl hnm0 hbl
     by_cases hp0 : p = []
     ·have hc3 : (!(p == ([] : Bt))) = false := by rw [hp0]; rfl
      rw [hc3] at c3
      have HP0 := hid hp0
      clear hc3 hp0
      by_cases hn0 : n = xmlnsW
      ·have HDC : Hid (declX ((p, n), v) = some []) := hid (by unfold declX; rw [if_neg (by show ¬ p = xmlnsW; rw [HP0.out]; decide), if_pos ⟨HP0.out, hn0⟩])
       have hr : ((bs n).toList == [120, 109, 108, 110, 115]) = true := by rw [bs_toList, hn0]; rfl
       have hr2 : (bs n).toList = [120, 109, 108, 110, 115] := by rw [bs_toList, hn0]; rfl
       clear hn0
       as_aux_lemma =>
        have HBVq := hid (fun hb => HBV.out [] HDC.out hb)
        have HGDq := hid (fun hb hj => HGD.out [] HDC.out hb hj)
        have HDUq := hid (fun j (hj : j < k) he => HDU.out [] j hj HDC.out he)
        clear HGO HGD HBV HDU
        have b1 := below_alloc8 W0 (.cells #[sV p, sV n, sV v, .bool false] TMk (0, 0))
        obtain ⟨Ma, hMa⟩ : ∃ M, W0.heap.size = M := ⟨_, rfl⟩
        have hab := Blk.new (.cells #[sV p, sV n, sV v, .bool false] TMk (0, 0)) W0
        rw [hMa] at hab
        have HMB9 : Hid (B ≤ Ma) := hid (by have h1 := HE1.out.bw; omega)
        have HJ : Hid ((fun W => E1S X R M B #[sV pn, sV nn, .string ⟨#[]⟩, .bool hbN] w s s2 (some ⟨bb, off, none⟩) ms W ∧ W.ownsRow B TSp 2 u12 n12 (cS (sc ++ declsX (ms.take k))) ∧ Blk Ma (.cells #[sV p, sV n, sV v, .bool false] TMk (0, 0)) W) (W0.alloc (.cells #[sV p, sV n, sV v, .bool false] TMk (0, 0)))) := hid ⟨HE1.out.below b1, own_off HOW.out.1 (Off.of_below b1) (fun _ _ h => h), hab⟩
        have HJB : Hid (∀ W W', (E1S X R M B #[sV pn, sV nn, .string ⟨#[]⟩, .bool hbN] w s s2 (some ⟨bb, off, none⟩) ms W ∧ W.ownsRow B TSp 2 u12 n12 (cS (sc ++ declsX (ms.take k))) ∧ Blk Ma (.cells #[sV p, sV n, sV v, .bool false] TMk (0, 0)) W) → Below W.heap.size W W' → (fun W => E1S X R M B #[sV pn, sV nn, .string ⟨#[]⟩, .bool hbN] w s s2 (some ⟨bb, off, none⟩) ms W ∧ W.ownsRow B TSp 2 u12 n12 (cS (sc ++ declsX (ms.take k))) ∧ Blk Ma (.cells #[sV p, sV n, sV v, .bool false] TMk (0, 0)) W) W') := hid (fun W W' h b => ⟨h.1.below b, own_off h.2.1 (Off.of_below b) (fun _ _ h => h), (Off.of_below b).blk h.2.2 (fun h => h)⟩)
        have hka : k ≤ cq := by have := HCQ.out; omega
        have hsl : ∀ W, (Instr.slice 87 (.slice (some ⟨bb, off, none⟩) nM cq) none (some (.int .i64 (k : Int))) none).run Tryz.prog W = .ok (.slice (some ⟨bb, off, none⟩) k cq) W := fun W => cut_marks bb off nM cq k hka W
        clear b1 hab hka
        go_wp2
        clear c0 c1 c2 c3 hsl hr hr2
        go_loopw [77] (fun i wr => ∃ j : Nat, j ≤ k ∧ i = .int .i64 j ∧ Hid ((fun W => E1S X R M B #[sV pn, sV nn, .string ⟨#[]⟩, .bool hbN] w s s2 (some ⟨bb, off, none⟩) ms W ∧ W.ownsRow B TSp 2 u12 n12 (cS (sc ++ declsX (ms.take k))) ∧ Blk Ma (.cells #[sV p, sV n, sV v, .bool false] TMk (0, 0)) W) wr) ∧ Hid (∀ j' (hj : j' < ms.length), j' < j → ms[j'].1 ≠ (p, n))) (fun i _ => k - (RowKit.intOf i).toNat)
        case atStart => exact ⟨0, Nat.zero_le _, rfl, HJ, hid (fun _ _ h => absurd h (Nat.not_lt_zero _))⟩
        case round =>
         clear HJ
         obtain ⟨j, hj, rfl, HJ, HNJ⟩ := hrel
         obtain ⟨V0, hV0⟩ : ∃ V0, V0 = wr := ⟨_, rfl⟩
         subst hV0
         have hJE : E1S X R M B #[sV pn, sV nn, .string ⟨#[]⟩, .bool hbN] w s s2 (some ⟨bb, off, none⟩) ms V0 := HJ.out.1
         have hJA : Blk Ma (.cells #[sV p, sV n, sV v, .bool false] TMk (0, 0)) V0 := HJ.out.2.2
         by_cases hjt : j < k
         ·have hjl : j < ms.length := by omega
          obtain ⟨bb2, off2, hA2, hT2, hbl2, hcl2⟩ := hJE.row (by rw [cQ_len]; omega)
          obtain ⟨rfl, rfl⟩ : bb = bb2 ∧ off = off2 := by injection hA2 with h; injection h with h1 h2; exact ⟨h1, h2⟩
          obtain ⟨c0, c1, c2, c3⟩ := RC.q4 hcl2 j hjl
          have HNX : Hid (ms[j].1 ≠ (p, n) → ∀ j' (hj : j' < ms.length), j' < j + 1 → ms[j'].1 ≠ (p, n)) := hid (fun h i hi hij => by
           rcases Nat.lt_or_ge i j with h2 | h2
           ·exact HNJ.out i hi h2
           ·obtain rfl : i = j := by omega
            exact h)
          have HDj := hid (HDUq.out j hjt)
          obtain ⟨m2, hm2⟩ : ∃ m, ms[j] = m := ⟨_, rfl⟩
          rw [hm2] at c0 c1 c2 c3 HNX HDj
          obtain ⟨⟨⟨p2, n2⟩, v2⟩, rfl⟩ : ∃ x : XM, m2 = x := ⟨_, rfl⟩
          simp only at c0 c1 c2 c3
          obtain ⟨hb2, hhb2⟩ : ∃ b, (!(p2 == ([] : Bt))) = b := ⟨_, rfl⟩
          have HHB2 := hid hhb2
          rw [hhb2] at c3
          have b2 := below_alloc8 V0 (.cells #[sV p2, sV n2, sV v2, .bool hb2] TMk (0, 0))
          have HJ2 := hid (HJB.out _ _ HJ.out b2)
          have a0 := HJ2.out.2.2.cell 0
          have a1 := HJ2.out.2.2.cell 1
          have a3 := HJ2.out.2.2.cell 3
          clear hm2 hcl2 hhb2 b2 hA2 hT2 hbl2 hJA hJE
          by_cases hpp : p2 = p
          ·have e1 : hb2 = false := by rw [← HHB2.out, hpp]; rw [HP0.out]; rfl
           subst e1
           have g1 : ((bs p2).toList == (bs p).toList) = true := by rw [hpp]; exact beq_self_eq_true _
           have g1b : (bs p2).toList = (bs p).toList := by rw [hpp]
           by_cases hnn : n2 = n
           ·have g2 : ((bs n2).toList == (bs n).toList) = true := by rw [hnn]; exact beq_self_eq_true _
            have g2b : (bs n2).toList = (bs n).toList := by rw [hnn]
            have HF : Hid (o = .error 70) := hid (HDj.out (by rw [hpp, hnn]))
            have hRx := HJ2.out.1.res
            have HOx := hid HJ2.out.1.off
            clear hpp hnn
            go_wp2_with (guard_target =~ Go.wpList _ _ _ ({ dst := none, op := Go.Op.store TNo _ _, type := _, pos := _, after := _, guard := none } :: _) _ _; refine stN5 rfl rfl (all5 rfl rfl rfl rfl rfl) hRx ?_)
            intro wz hz oz
            have d0 := hz.cell 0
            have d1 := hz.cell 1
            have d2 := hz.cell 2
            have d3 := hz.cell 3
            have d4 := hz.cell 4
            have HOz := hid (OX.new HOx.out oz hRw)
            clear hz oz
            go_wp2
            refine bodyPost_ret (v := .tuple #[zNV, .int .i64 70]) ?_ rfl ?_
            ·simp [results, Tryz.results34, go_sem, d0, d1, d2, d3, d4]
            exact ElO.bad HF.out (by decide) HOz.out
           ·have g2b : ¬ (bs n2).toList = (bs n).toList := by rw [bs_toList, bs_toList]; exact hnn
            have g2 : ((bs n2).toList == (bs n).toList) = false := beq_eq_false_iff_ne.2 g2b
            have HNn := hid (HNX.out (fun h => hnn (by injection h)))
            clear hpp hnn
            go_wp2
            go_roundw
            case rel => exact ⟨j + 1, by omega, by go_num, HJ2, HNn⟩
            case measure => simp [RowKit.intOf]; omega
          ·have g1b : ¬ (bs p2).toList = (bs p).toList := by rw [bs_toList, bs_toList]; exact hpp
           have g1 : ((bs p2).toList == (bs p).toList) = false := beq_eq_false_iff_ne.2 g1b
           have HNn := hid (HNX.out (fun h => hpp (by injection h)))
           clear hpp
           cases hb2 with
           | true =>
            go_wp2
            go_roundw
            case rel => exact ⟨j + 1, by omega, by go_num, HJ2, HNn⟩
            case measure => simp [RowKit.intOf]; omega
           | false =>
            go_wp2
            go_roundw
            case rel => exact ⟨j + 1, by omega, by go_num, HJ2, HNn⟩
            case measure => simp [RowKit.intOf]; omega
         ·obtain rfl : k = j := by omega
          have a1 := hJA.cell 1
          have a2 := hJA.cell 2
          have a3 := hJA.cell 3
          have hg := HGDq.out (by unfold badD; rfl) HNJ.out
          have hl12 : n12 ≤ 1000000 := by omega
          have hBw : B ≤ V0.heap.size := hJE.bw
          go_wp2_with (at_builtin; refine appR rfl _ _ 66 TSp 2 32 _ Tryz.underlying66 Tryz.info8P rfl (by decide) (by decide) rfl V0 B u12 n12 (cS (sc ++ declsX (ms.take k))) [.string ⟨#[]⟩, sV v] rfl (by intro u hu; simp only [List.mem_cons, List.not_mem_nil, or_false] at hu; rcases hu with rfl | rfl <;> rfl) rfl (by exact HJ.out.2.1) rfl hl12 hBw ?_)
          intro v' w9 hown hoff _
          have HE9 := hid (hJE.step hoff (fun b hb => (World.ownsRow.lt HJ.out.2.1 b hb).1))
          have HO9 : Hid (w9.ownsRow B TSp 2 v' (n12 + 1) (cS (sc ++ declsX (ms.take (k + 1)))) ∧ n12 + 1 = (sc ++ declsX (ms.take (k + 1))).length) := hid (by
           rw [hg.2, ← List.append_assoc, cS_snoc]
           refine ⟨hown, ?_⟩
           rw [List.length_append, List.length_singleton, ← HOW.out.2])
          have HG9 := hid hg.1
          clear hown hoff hg a1 a2 a3 hJE hJA
          go_wp2
          go_roundw
          case rel => exact ⟨k + 1, n12 + 1, by omega, by go_num, HE9, HO9, HG9⟩
          case measure => simp [RowKit.intOf]; omega
      ·have HDC : Hid (declX ((p, n), v) = none) := hid (by unfold declX; rw [if_neg (by show ¬ p = xmlnsW; rw [HP0.out]; decide), if_neg (fun h => hn0 h.2)])
       have hr : ((bs n).toList == [120, 109, 108, 110, 115]) = false := by rw [bs_toList]; exact beq_eq_false_iff_ne.2 hn0
       have hr2 : ¬ (bs n).toList = [120, 109, 108, 110, 115] := by rw [bs_toList]; exact hn0
       clear hn0
       as_aux_lemma =>
        have hg := HGO.out HDC.out
        have b1 := below_alloc8 W0 (.cells #[sV p, sV n, sV v, .bool false] TMk (0, 0))
        have HEn := hid (HE1.out.below b1)
        have HOn : Hid ((W0.alloc (.cells #[sV p, sV n, sV v, .bool false] TMk (0, 0))).ownsRow B TSp 2 u12 n12 (cS (sc ++ declsX (ms.take (k + 1)))) ∧ n12 = (sc ++ declsX (ms.take (k + 1))).length) := hid (by
         rw [hg.2]
         exact ⟨own_off HOW.out.1 (Off.of_below b1) (fun _ _ h => h), HOW.out.2⟩)
        have HGn := hid hg.1
        clear hg b1
        go_wp2
        go_roundw
        case rel => exact ⟨k + 1, n12, by omega, by go_num, HEn, HOn, HGn⟩
        case measure => simp [RowKit.intOf]; omega
     ·have hc3 : (!(p == ([] : Bt))) = true := by rw [beq_false_of_ne hp0]; rfl
      rw [hc3] at c3
      have HP0 := hid hp0
      clear hc3 hp0
      by_cases hx0 : p = xmlnsW
      ·have HDC : Hid (declX ((p, n), v) = some n) := hid (by unfold declX; rw [if_pos hx0])
       have hr : ((bs p).toList == [120, 109, 108, 110, 115]) = true := by rw [bs_toList, hx0]; rfl
       have hr2 : (bs p).toList = [120, 109, 108, 110, 115] := by rw [bs_toList, hx0]; rfl
       clear hx0
       as_aux_lemma =>
        have HBVq := hid (fun hb => HBV.out n HDC.out hb)
        have HGDq := hid (fun hb hj => HGD.out n HDC.out hb hj)
        have HDUq := hid (fun j (hj : j < k) he => HDU.out n j hj HDC.out he)
        clear HGO HGD HBV HDU
        have b1 := below_alloc8 W0 (.cells #[sV p, sV n, sV v, .bool true] TMk (0, 0))
        obtain ⟨Ma, hMa⟩ : ∃ M, W0.heap.size = M := ⟨_, rfl⟩
        have hab := Blk.new (.cells #[sV p, sV n, sV v, .bool true] TMk (0, 0)) W0
        rw [hMa] at hab
        have HMB9 : Hid (B ≤ Ma) := hid (by have h1 := HE1.out.bw; omega)
        have HJ : Hid ((fun W => E1S X R M B #[sV pn, sV nn, .string ⟨#[]⟩, .bool hbN] w s s2 (some ⟨bb, off, none⟩) ms W ∧ W.ownsRow B TSp 2 u12 n12 (cS (sc ++ declsX (ms.take k))) ∧ Blk Ma (.cells #[sV p, sV n, sV v, .bool true] TMk (0, 0)) W) (W0.alloc (.cells #[sV p, sV n, sV v, .bool true] TMk (0, 0)))) := hid ⟨HE1.out.below b1, own_off HOW.out.1 (Off.of_below b1) (fun _ _ h => h), hab⟩
        have HJB : Hid (∀ W W', (E1S X R M B #[sV pn, sV nn, .string ⟨#[]⟩, .bool hbN] w s s2 (some ⟨bb, off, none⟩) ms W ∧ W.ownsRow B TSp 2 u12 n12 (cS (sc ++ declsX (ms.take k))) ∧ Blk Ma (.cells #[sV p, sV n, sV v, .bool true] TMk (0, 0)) W) → Below W.heap.size W W' → (fun W => E1S X R M B #[sV pn, sV nn, .string ⟨#[]⟩, .bool hbN] w s s2 (some ⟨bb, off, none⟩) ms W ∧ W.ownsRow B TSp 2 u12 n12 (cS (sc ++ declsX (ms.take k))) ∧ Blk Ma (.cells #[sV p, sV n, sV v, .bool true] TMk (0, 0)) W) W') := hid (fun W W' h b => ⟨h.1.below b, own_off h.2.1 (Off.of_below b) (fun _ _ h => h), (Off.of_below b).blk h.2.2 (fun h => h)⟩)
        have hka : k ≤ cq := by have := HCQ.out; omega
        have hsl : ∀ W, (Instr.slice 87 (.slice (some ⟨bb, off, none⟩) nM cq) none (some (.int .i64 (k : Int))) none).run Tryz.prog W = .ok (.slice (some ⟨bb, off, none⟩) k cq) W := fun W => cut_marks bb off nM cq k hka W
        clear b1 hab hka
        go_wp2
        clear c0 c1 c2 c3 hsl hr hr2
        go_loopw [77] (fun i wr => ∃ j : Nat, j ≤ k ∧ i = .int .i64 j ∧ Hid ((fun W => E1S X R M B #[sV pn, sV nn, .string ⟨#[]⟩, .bool hbN] w s s2 (some ⟨bb, off, none⟩) ms W ∧ W.ownsRow B TSp 2 u12 n12 (cS (sc ++ declsX (ms.take k))) ∧ Blk Ma (.cells #[sV p, sV n, sV v, .bool true] TMk (0, 0)) W) wr) ∧ Hid (∀ j' (hj : j' < ms.length), j' < j → ms[j'].1 ≠ (p, n))) (fun i _ => k - (RowKit.intOf i).toNat)
        case atStart => exact ⟨0, Nat.zero_le _, rfl, HJ, hid (fun _ _ h => absurd h (Nat.not_lt_zero _))⟩
        case round =>
         clear HJ
         obtain ⟨j, hj, rfl, HJ, HNJ⟩ := hrel
         obtain ⟨V0, hV0⟩ : ∃ V0, V0 = wr := ⟨_, rfl⟩
         subst hV0
         have hJE : E1S X R M B #[sV pn, sV nn, .string ⟨#[]⟩, .bool hbN] w s s2 (some ⟨bb, off, none⟩) ms V0 := HJ.out.1
         have hJA : Blk Ma (.cells #[sV p, sV n, sV v, .bool true] TMk (0, 0)) V0 := HJ.out.2.2
         by_cases hjt : j < k
         ·have hjl : j < ms.length := by omega
          obtain ⟨bb2, off2, hA2, hT2, hbl2, hcl2⟩ := hJE.row (by rw [cQ_len]; omega)
          obtain ⟨rfl, rfl⟩ : bb = bb2 ∧ off = off2 := by injection hA2 with h; injection h with h1 h2; exact ⟨h1, h2⟩
          obtain ⟨c0, c1, c2, c3⟩ := RC.q4 hcl2 j hjl
          have HNX : Hid (ms[j].1 ≠ (p, n) → ∀ j' (hj : j' < ms.length), j' < j + 1 → ms[j'].1 ≠ (p, n)) := hid (fun h i hi hij => by
           rcases Nat.lt_or_ge i j with h2 | h2
           ·exact HNJ.out i hi h2
           ·obtain rfl : i = j := by omega
            exact h)
          have HDj := hid (HDUq.out j hjt)
          obtain ⟨m2, hm2⟩ : ∃ m, ms[j] = m := ⟨_, rfl⟩
          rw [hm2] at c0 c1 c2 c3 HNX HDj
          obtain ⟨⟨⟨p2, n2⟩, v2⟩, rfl⟩ : ∃ x : XM, m2 = x := ⟨_, rfl⟩
          simp only at c0 c1 c2 c3
          obtain ⟨hb2, hhb2⟩ : ∃ b, (!(p2 == ([] : Bt))) = b := ⟨_, rfl⟩
          have HHB2 := hid hhb2
          rw [hhb2] at c3
          have b2 := below_alloc8 V0 (.cells #[sV p2, sV n2, sV v2, .bool hb2] TMk (0, 0))
          have HJ2 := hid (HJB.out _ _ HJ.out b2)
          have a0 := HJ2.out.2.2.cell 0
          have a1 := HJ2.out.2.2.cell 1
          have a3 := HJ2.out.2.2.cell 3
          clear hm2 hcl2 hhb2 b2 hA2 hT2 hbl2 hJA hJE
          by_cases hpp : p2 = p
          ·have e1 : hb2 = true := by rw [← HHB2.out, hpp]; rw [beq_false_of_ne HP0.out]; rfl
           subst e1
           have g1 : ((bs p2).toList == (bs p).toList) = true := by rw [hpp]; exact beq_self_eq_true _
           have g1b : (bs p2).toList = (bs p).toList := by rw [hpp]
           by_cases hnn : n2 = n
           ·have g2 : ((bs n2).toList == (bs n).toList) = true := by rw [hnn]; exact beq_self_eq_true _
            have g2b : (bs n2).toList = (bs n).toList := by rw [hnn]
            have HF : Hid (o = .error 70) := hid (HDj.out (by rw [hpp, hnn]))
            have hRx := HJ2.out.1.res
            have HOx := hid HJ2.out.1.off
            clear hpp hnn
            go_wp2_with (guard_target =~ Go.wpList _ _ _ ({ dst := none, op := Go.Op.store TNo _ _, type := _, pos := _, after := _, guard := none } :: _) _ _; refine stN5 rfl rfl (all5 rfl rfl rfl rfl rfl) hRx ?_)
            intro wz hz oz
            have d0 := hz.cell 0
            have d1 := hz.cell 1
            have d2 := hz.cell 2
            have d3 := hz.cell 3
            have d4 := hz.cell 4
            have HOz := hid (OX.new HOx.out oz hRw)
            clear hz oz
            go_wp2
            refine bodyPost_ret (v := .tuple #[zNV, .int .i64 70]) ?_ rfl ?_
            ·simp [results, Tryz.results34, go_sem, d0, d1, d2, d3, d4]
            exact ElO.bad HF.out (by decide) HOz.out
           ·have g2b : ¬ (bs n2).toList = (bs n).toList := by rw [bs_toList, bs_toList]; exact hnn
            have g2 : ((bs n2).toList == (bs n).toList) = false := beq_eq_false_iff_ne.2 g2b
            have HNn := hid (HNX.out (fun h => hnn (by injection h)))
            clear hpp hnn
            go_wp2
            go_roundw
            case rel => exact ⟨j + 1, by omega, by go_num, HJ2, HNn⟩
            case measure => simp [RowKit.intOf]; omega
          ·have g1b : ¬ (bs p2).toList = (bs p).toList := by rw [bs_toList, bs_toList]; exact hpp
           have g1 : ((bs p2).toList == (bs p).toList) = false := beq_eq_false_iff_ne.2 g1b
           have HNn := hid (HNX.out (fun h => hpp (by injection h)))
           clear hpp
           cases hb2 with
           | true =>
            go_wp2
            go_roundw
            case rel => exact ⟨j + 1, by omega, by go_num, HJ2, HNn⟩
            case measure => simp [RowKit.intOf]; omega
           | false =>
            go_wp2
            go_roundw
            case rel => exact ⟨j + 1, by omega, by go_num, HJ2, HNn⟩
            case measure => simp [RowKit.intOf]; omega
         ·obtain rfl : k = j := by omega
          have a1 := hJA.cell 1
          have a2 := hJA.cell 2
          have a3 := hJA.cell 3
          by_cases hv0 : v = []
          ·have hsv : (bs v).toList = [] := by rw [bs_toList]; exact hv0
           have HF : Hid (o = .error 70) := hid (HBVq.out (by unfold badD; rw [hv0, beq_false_of_ne HN0.out]; rfl))
           have hRx := hJE.res
           have HOx := hid hJE.off
           clear hv0
           go_wp2_with (guard_target =~ Go.wpList _ _ _ ({ dst := none, op := Go.Op.store TNo _ _, type := _, pos := _, after := _, guard := none } :: _) _ _; refine stN5 rfl rfl (all5 rfl rfl rfl rfl rfl) hRx ?_)
           intro wz hz oz
           have d0 := hz.cell 0
           have d1 := hz.cell 1
           have d2 := hz.cell 2
           have d3 := hz.cell 3
           have d4 := hz.cell 4
           have HOz := hid (OX.new HOx.out oz hRw)
           clear hz oz
           go_wp2
           refine bodyPost_ret (v := .tuple #[zNV, .int .i64 70]) ?_ rfl ?_
           ·simp [results, Tryz.results34, go_sem, d0, d1, d2, d3, d4]
           exact ElO.bad HF.out (by decide) HOz.out
          ·obtain ⟨hv1, hv2, hv3⟩ := bs_ne9 hv0
           have hg := HGDq.out (by unfold badD; rw [beq_false_of_ne hv0, Bool.and_false]) HNJ.out
           clear hv0
           have hl12 : n12 ≤ 1000000 := by omega
           have hBw : B ≤ V0.heap.size := hJE.bw
           go_wp2_with (at_builtin; refine appR rfl _ _ 66 TSp 2 32 _ Tryz.underlying66 Tryz.info8P rfl (by decide) (by decide) rfl V0 B u12 n12 (cS (sc ++ declsX (ms.take k))) [sV n, sV v] rfl (by intro u hu; simp only [List.mem_cons, List.not_mem_nil, or_false] at hu; rcases hu with rfl | rfl <;> rfl) rfl (by exact HJ.out.2.1) rfl hl12 hBw ?_)
           intro v' w9 hown hoff _
           have HE9 := hid (hJE.step hoff (fun b hb => (World.ownsRow.lt HJ.out.2.1 b hb).1))
           have HO9 : Hid (w9.ownsRow B TSp 2 v' (n12 + 1) (cS (sc ++ declsX (ms.take (k + 1)))) ∧ n12 + 1 = (sc ++ declsX (ms.take (k + 1))).length) := hid (by
            rw [hg.2, ← List.append_assoc, cS_snoc]
            refine ⟨hown, ?_⟩
            rw [List.length_append, List.length_singleton, ← HOW.out.2])
           have HG9 := hid hg.1
           clear hown hoff hg a1 a2 a3 hJE hJA
           go_wp2
           go_roundw
           case rel => exact ⟨k + 1, n12 + 1, by omega, by go_num, HE9, HO9, HG9⟩
           case measure => simp [RowKit.intOf]; omega
      ·have HDC : Hid (declX ((p, n), v) = none) := hid (by unfold declX; rw [if_neg hx0, if_neg (fun h => HP0.out h.1)])
       have hr : ((bs p).toList == [120, 109, 108, 110, 115]) = false := by rw [bs_toList]; exact beq_eq_false_iff_ne.2 hx0
       have hr2 : ¬ (bs p).toList = [120, 109, 108, 110, 115] := by rw [bs_toList]; exact hx0
       clear hx0
       as_aux_lemma =>
        have hg := HGO.out HDC.out
        have b1 := below_alloc8 W0 (.cells #[sV p, sV n, sV v, .bool true] TMk (0, 0))
        have HEn := hid (HE1.out.below b1)
        have HOn : Hid ((W0.alloc (.cells #[sV p, sV n, sV v, .bool true] TMk (0, 0))).ownsRow B TSp 2 u12 n12 (cS (sc ++ declsX (ms.take (k + 1)))) ∧ n12 = (sc ++ declsX (ms.take (k + 1))).length) := hid (by
         rw [hg.2]
         exact ⟨own_off HOW.out.1 (Off.of_below b1) (fun _ _ h => h), HOW.out.2⟩)
        have HGn := hid hg.1
        clear hg b1
        go_wp2
        go_roundw
        case rel => exact ⟨k + 1, n12, by omega, by go_num, HEn, HOn, HGn⟩
        case measure => simp [RowKit.intOf]; omega
    ·obtain rfl : nM = k := by omega
     have HTK : Hid (ms.take nM = ms) := hid (List.take_of_length_le (by rw [HNM.out]; exact Nat.le_refl _))
     rw [HTK.out] at HOW HG
     have HGS := hid (HG.out.scope (sc := sc))
     have HFN : Hid (findX (sc ++ declsX ms) pn = none → o = .error 70) := hid (fun h => HBAD.out (start_find_none HGS.out h))
     have HFD2 : Hid ((findX (sc ++ declsX ms) []).isSome = true) := hid (find_some [] _ _ HFD.out)
     have hn9 : n12 ≤ 200000 := by have h1 := HOW.out.2; have h2 := decls_len ms; rw [HNM.out] at h2; rw [List.length_append, HNS.out] at h1; omega
     obtain ⟨A12, c12, e12⟩ := own_form HOW.out.1
     subst e12
     obtain ⟨N, hN⟩ : ∃ N, W0.heap.size = N := ⟨_, rfl⟩
     have hNb := Blk.new (.cells #[.string ⟨#[]⟩, sV nn, .slice none 0 0, .slice none 0 0, .string ⟨#[]⟩] TNo) W0
     rw [hN] at hNb
     have b1 := below_alloc8 W0 (.cells #[.string ⟨#[]⟩, sV nn, .slice none 0 0, .slice none 0 0, .string ⟨#[]⟩] TNo)
     have HE5 := hid (HE1.out.below b1)
     have HO5 := hid (own_off HOW.out.1 (Off.of_below b1) (fun _ _ h => h))
     have HN5 := hid hNb
     have hBN : B ≤ N := by have := HE1.out.bw; omega
     have hMB := HE1.out.mB
     have HKN : Hid (∀ b, (Value.slice A12 n12 c12).ownBlock = some b → B ≤ b ∧ b < N) := hid (fun b hb => by have := World.ownsRow.lt HOW.out.1 b hb; exact ⟨this.1, by omega⟩)
     have HLN := hid HOW.out.2
     have HRCN : Hid (∀ W, W.ownsRow B TSp 2 (.slice A12 n12 c12) n12 (cS (sc ++ declsX ms)) → ∀ x, Calls Tryz.prog 58 #[.slice A12 n12 c12, .string (bs x)] W (fun e w' => e = .returned (FdV (findX (sc ++ declsX ms) x)) ∧ w' = W)) := hid (fun W hW x => by
      have h := rfind8 (c := c12) (own_rc hW (fun _ => True) (fun _ _ => trivial)) (by rw [← HLN.out]; omega) x
      rw [← HLN.out] at h
      exact h)
     obtain ⟨q9, hq9⟩ : ∃ x, (findX (sc ++ declsX ms) pn).getD [] = x := ⟨_, rfl⟩
     obtain ⟨b9, hb9⟩ : ∃ x, (findX (sc ++ declsX ms) pn).isSome = x := ⟨_, rfl⟩
     have HFC : Hid (Calls Tryz.prog 58 #[.slice A12 n12 c12, .string (bs pn)] (W0.alloc (.cells #[.string ⟨#[]⟩, sV nn, .slice none 0 0, .slice none 0 0, .string ⟨#[]⟩] TNo)) (fun e w' => e = .returned (.tuple #[.string (bs q9), .bool b9]) ∧ w' = W0.alloc (.cells #[.string ⟨#[]⟩, sV nn, .slice none 0 0, .slice none 0 0, .string ⟨#[]⟩] TNo))) := hid (by
      have h := HRCN.out _ HO5.out pn
      unfold FdV at h
      rw [hq9, hb9] at h
      exact h)
     have p1 := HE1.out.mark.cell 1
     have p0 := HE5.out.mark.cell 0
     have p3 := HE5.out.mark.cell 3
     cases b9 with
     | false =>
      have HFE : Hid (findX (sc ++ declsX ms) pn = none) := hid (by cases hf : findX (sc ++ declsX ms) pn with | none => rfl | some x => rw [hf] at hb9; cases hb9)
      have HF := hid (HFN.out HFE.out)
      cases hbN with
      | false =>
       exfalso
       have hp : pn = [] := by
        have h := HHBN.out
        by_cases hp : pn = []
        ·exact hp
        ·rw [beq_false_of_ne hp] at h; cases h
       have h1 := HFD2.out
       rw [← hp, HFE.out] at h1
       cases h1
      | true =>
       have hRx := HE5.out.res
       have HOx := hid HE5.out.off
       clear hq9 hb9 hNb b1 hN hlt
       go_wp2_with fail
       refine HFC.out.mono ?_
       rintro e w5 ⟨rfl, rfl⟩
       go_wp2_with (guard_target =~ Go.wpList _ _ _ ({ dst := none, op := Go.Op.store TNo _ _, type := _, pos := _, after := _, guard := none } :: _) _ _; refine stN5 rfl rfl (all5 rfl rfl rfl rfl rfl) hRx ?_)
       intro wz hz oz
       have d0 := hz.cell 0
       have d1 := hz.cell 1
       have d2 := hz.cell 2
       have d3 := hz.cell 3
       have d4 := hz.cell 4
       have HOz := hid (OX.new HOx.out oz hRw)
       clear hz oz
       go_wp2
       refine bodyPost_ret (v := .tuple #[zNV, .int .i64 70]) ?_ rfl ?_
       ·simp [results, Tryz.results34, go_sem, d0, d1, d2, d3, d4]
       exact ElO.bad HF.out (by decide) HOz.out
     | true =>
      have HFS : Hid (findX (sc ++ declsX ms) pn = some q9) := hid (by cases hf : findX (sc ++ declsX ms) pn with | none => rw [hf] at hb9; cases hb9 | some x => rw [hf] at hq9; rw [← hq9]; rfl)
      clear hq9 hb9 hNb b1 hlt HFN
      go_wp2_with fail
      refine HFC.out.mono ?_
      rintro e w5 ⟨rfl, rfl⟩
      clear HFC hN
      obtain ⟨W5, hW5⟩ : ∃ W, W = W0.alloc (.cells #[.string ⟨#[]⟩, sV nn, .slice none 0 0, .slice none 0 0, .string ⟨#[]⟩] TNo) := ⟨_, rfl⟩
      rw [← hW5] at HE5 HO5 HN5 p0 p3 ⊢
      clear hW5 p1 p0 HE1 HOW
      go_upto_region 26 with fail
      go_cut [142] (fun c wx => c = .bool false ∧ wx = W5)
      case first =>
       cases hbN with
       | true =>
        go_wp2_with fail
        go_meet
        exact ⟨rfl, rfl⟩
       | false =>
        go_wp2_with fail
        go_meet
        exact ⟨rfl, rfl⟩
      case rest =>
       obtain ⟨hc, hw⟩ := hcut
       obtain ⟨w6, hw6⟩ : ∃ W, W = wc := ⟨_, rfl⟩
       subst hw6
       subst hw
       subst hc
       clear p3
       have n0 := HN5.out.cell 0
       have f0 := HN5.out.free 0
       have hoff : OX N w6 (w6.setCell ⟨N, 0, none⟩ (sV q9)) := off_set8 _ _ _ _
       have HE6 := hid (HE5.out.step hoff (fun b hb => by omega))
       have HO6 := hid (own_off HO5.out hoff (fun b hb e => by have := HKN.out b hb; omega))
       have HN6 : Hid (Blk N (.cells #[sV q9, sV nn, .slice none 0 0, .slice none 0 0, .string ⟨#[]⟩] TNo) (w6.setCell ⟨N, 0, none⟩ (sV q9))) := hid (by simpa using HN5.out.set 0 (sV q9))
       have HA0 : Hid (A3 (sc ++ declsX ms) (ms.take 0) []) := hid (by rw [List.take_zero]; exact A3.nil _)
       clear hoff HE5 HO5 HN5
       go_wp2
       clear n0 f0
       go_loopw [148] (fun i wr => ∃ (k : Nat) (al : List XA) (av : Value), k ≤ nM ∧ i = .int .i64 k ∧ Hid (E1S X R M B #[sV pn, sV nn, .string ⟨#[]⟩, .bool hbN] w s s2 Aq ms wr) ∧ Hid (wr.ownsRow B TSp 2 (.slice A12 n12 c12) n12 (cS (sc ++ declsX ms))) ∧ Hid (Blk N (.cells #[sV q9, sV nn, av, .slice none 0 0, .string ⟨#[]⟩] TNo) wr) ∧ Hid (wr.ownsRow (N + 1) TA3 3 av al.length (cA al)) ∧ Hid (A3 (sc ++ declsX ms) (ms.take k) al) ∧ Hid (al.length ≤ k)) (fun i _ => nM - (RowKit.intOf i).toNat)
       case atStart => exact ⟨0, [], .slice none 0 0, Nat.zero_le _, rfl, HE6, HO6, HN6, hid (World.ownsRow_nil _ _ _ _), HA0, hid (Nat.le_refl _)⟩
       case round =>
        clear HE6 HO6 HN6 HA0
        obtain ⟨k, al, av, hk2, rfl, HE1, HOW, HNB, HAW, HA, HAL⟩ := hrel
        obtain ⟨W1, hW1⟩ : ∃ W1, W1 = wr := ⟨_, rfl⟩
        subst hW1
        obtain ⟨Aa, ca, eav⟩ := own_form HAW.out
        subst eav
        by_cases hlt : k < nM
        ·as_aux_lemma =>
          have hkl : k < ms.length := by rw [HNM.out]; exact hlt
          obtain ⟨bb, off, hAe, hT, hbl, hcl⟩ := HE1.out.row (by rw [cQ_len]; omega)
          obtain ⟨c0, c1, c2, c3⟩ := RC.q4 hcl k hkl
          have hnm0 := HNMS.out _ (List.getElem_mem hkl)
          have HSK := hid (fun q (h : declX ms[k] = some q) => A3.skip (sc := (sc ++ declsX ms)) hkl h HA.out)
          have HAN : Hid (declX ms[k] = none → attrX (sc ++ declsX ms) ms[k] = none → o = .error 70) := hid (fun h ha => HBAD.out (start_attr_none hkl HGS.out h ha HA.out))
          have HAD : Hid (∀ a j (hj : j < al.length), declX ms[k] = none → attrX (sc ++ declsX ms) ms[k] = some a → (al[j].1 = a.1 ∧ al[j].2.1 = a.2.1) → o = .error 70) := hid (fun a j hj h ha he => HBAD.out (start_attr_dup hkl HGS.out h ha HA.out hj he))
          have HAP := hid (fun a (h : declX ms[k] = none) (ha : attrX (sc ++ declsX ms) ms[k] = some a) (hd : ∀ j (hj : j < al.length), ¬ ((al[j].1 = a.1) ∧ al[j].2.1 = a.2.1)) => A3.step hkl h ha hd HA.out)
          obtain ⟨m, hm⟩ : ∃ m, ms[k] = m := ⟨_, rfl⟩
          rw [hm] at c0 c1 c2 c3 hnm0 HSK HAN HAD HAP
          obtain ⟨⟨⟨p, n⟩, v⟩, rfl⟩ : ∃ x : XM, m = x := ⟨_, rfl⟩
          simp only at c0 c1 c2 c3 hnm0
          subst hAe
          clear hm hcl hnm0 hbl
          obtain ⟨nAl, hnAl⟩ : ∃ n, al.length = n := ⟨_, rfl⟩
          have HNAl := hid hnAl
          rw [hnAl] at HNB HAW HAL
          clear hnAl
          by_cases hp0 : p = []
          ·have hc3 : (!(p == ([] : Bt))) = false := by rw [hp0]; rfl
           rw [hc3] at c3
           have HP0 := hid hp0
           clear hc3 hp0
           by_cases hn0 : n = xmlnsW
           ·have HDC : Hid (declX ((p, n), v) = some []) := hid (by unfold declX; rw [if_neg (by show ¬ p = xmlnsW; rw [HP0.out]; decide), if_pos ⟨HP0.out, hn0⟩])
            have hr : ((bs n).toList == [120, 109, 108, 110, 115]) = true := by rw [bs_toList, hn0]; rfl
            have hr2 : (bs n).toList = [120, 109, 108, 110, 115] := by rw [bs_toList, hn0]; rfl
            clear hn0
            as_aux_lemma =>
             have hg := HSK.out [] HDC.out
             have b1 := below_alloc8 W1 (.cells #[sV p, sV n, sV v, .bool false] TMk (0, 0))
             have HEn := hid (HE1.out.below b1)
             have HOn := hid (own_off HOW.out (Off.of_below b1) (fun _ _ h => h))
             have HNn := hid ((Off.of_below b1).blk HNB.out (fun h => h))
             have HAn := hid (own_off HAW.out (Off.of_below b1) (fun _ _ h => h))
             have HGn := hid hg
             clear hg b1
             go_wp2
             go_roundw
             case rel => exact ⟨k + 1, al, _, by omega, by go_num, HEn, HOn, HNn, by rw [HNAl.out]; exact HAn, HGn, hid (by rw [HNAl.out]; have := HAL.out; omega)⟩
             case measure => simp [RowKit.intOf]; omega
           ·have HDC : Hid (declX ((p, n), v) = none) := hid (by unfold declX; rw [if_neg (by show ¬ p = xmlnsW; rw [HP0.out]; decide), if_neg (fun h => hn0 h.2)])
            have hr : ((bs n).toList == [120, 109, 108, 110, 115]) = false := by rw [bs_toList]; exact beq_eq_false_iff_ne.2 hn0
            have hr2 : ¬ (bs n).toList = [120, 109, 108, 110, 115] := by rw [bs_toList]; exact hn0
            clear hn0
            as_aux_lemma =>
             have bA := below_alloc8 W1 (.cells #[sV p, sV n, sV v, .bool false] TMk (0, 0))
             have hMa := Blk.new (.cells #[sV p, sV n, sV v, .bool false] TMk (0, 0)) W1
             have bB := below_alloc8 (W1.alloc (.cells #[sV p, sV n, sV v, .bool false] TMk (0, 0))) (.cells #[.string ⟨#[]⟩, sV n, sV v] TA3 (0, 0))
             have hMb := Blk.new (.cells #[.string ⟨#[]⟩, sV n, sV v] TA3 (0, 0)) (W1.alloc (.cells #[sV p, sV n, sV v, .bool false] TMk (0, 0)))
             obtain ⟨Ma, hMae⟩ : ∃ M, W1.heap.size = M := ⟨_, rfl⟩
             obtain ⟨Mb, hMbe⟩ : ∃ Mb, Mb = Ma + 1 := ⟨_, rfl⟩
             rw [show (W1.alloc (.cells #[sV p, sV n, sV v, .bool false] TMk (0, 0))).heap.size = Mb by simp [hMae, hMbe]] at hMb
             rw [hMae] at hMa
             have hMa2 := (Off.of_below bB).blk hMa (fun h => h)
             have b2 := bA.trans (bB.mono bA.size)
             have HE2 := hid (HE1.out.below b2)
             have HO2 := hid (own_off HOW.out (Off.of_below b2) (fun _ _ h => h))
             have HN2 := hid ((Off.of_below b2).blk HNB.out (fun h => h))
             have HA2 := hid (own_off HAW.out (Off.of_below b2) (fun _ _ h => h))
             have HMb2 := hid hMb
             have hNMa : N < Ma := by have := HNB.out.lt; omega
             have HMBA : Hid (∀ b, (Value.slice Aa nAl ca).ownBlock = some b → b < Ma) := hid (fun b hb => by have := (World.ownsRow.lt HAW.out b hb).2; omega)
             have HMEQ := hid hMbe
             have hnAl9 : nAl ≤ 70000 := by have := HAL.out; omega
             have m0 := hMa2.cell 0
             have m1 := hMa2.cell 1
             have m3 := hMa2.cell 3
             have HJB : Hid (∀ W W', (E1S X R M B #[sV pn, sV nn, .string ⟨#[]⟩, .bool hbN] w s s2 (some ⟨bb, off, none⟩) ms W ∧ W.ownsRow B TSp 2 (.slice A12 n12 c12) n12 (cS (sc ++ declsX ms)) ∧ Blk N (.cells #[sV q9, sV nn, (.slice Aa nAl ca), .slice none 0 0, .string ⟨#[]⟩] TNo) W ∧ W.ownsRow (N + 1) TA3 3 (.slice Aa nAl ca) nAl (cA al) ∧ Blk Mb (.cells #[.string ⟨#[]⟩, sV n, sV v] TA3 (0, 0)) W) → Below W.heap.size W W' → (fun W => E1S X R M B #[sV pn, sV nn, .string ⟨#[]⟩, .bool hbN] w s s2 (some ⟨bb, off, none⟩) ms W ∧ W.ownsRow B TSp 2 (.slice A12 n12 c12) n12 (cS (sc ++ declsX ms)) ∧ Blk N (.cells #[sV q9, sV nn, (.slice Aa nAl ca), .slice none 0 0, .string ⟨#[]⟩] TNo) W ∧ W.ownsRow (N + 1) TA3 3 (.slice Aa nAl ca) nAl (cA al) ∧ Blk Mb (.cells #[.string ⟨#[]⟩, sV n, sV v] TA3 (0, 0)) W) W') := hid (fun W W' h b => ⟨h.1.below b, own_off h.2.1 (Off.of_below b) (fun _ _ h => h), (Off.of_below b).blk h.2.2.1 (fun h => h), own_off h.2.2.2.1 (Off.of_below b) (fun _ _ h => h), (Off.of_below b).blk h.2.2.2.2 (fun h => h)⟩)
             have HADq := hid (fun j hj => HAD.out ([], n, v) j hj HDC.out (by unfold attrX; rw [if_pos HP0.out]))
             have HAPq := hid (fun hd => HAP.out ([], n, v) HDC.out (by unfold attrX; rw [if_pos HP0.out]) hd)
             have HJ : Hid ((fun W => E1S X R M B #[sV pn, sV nn, .string ⟨#[]⟩, .bool hbN] w s s2 (some ⟨bb, off, none⟩) ms W ∧ W.ownsRow B TSp 2 (.slice A12 n12 c12) n12 (cS (sc ++ declsX ms)) ∧ Blk N (.cells #[sV q9, sV nn, (.slice Aa nAl ca), .slice none 0 0, .string ⟨#[]⟩] TNo) W ∧ W.ownsRow (N + 1) TA3 3 (.slice Aa nAl ca) nAl (cA al) ∧ Blk Mb (.cells #[.string ⟨#[]⟩, sV n, sV v] TA3 (0, 0)) W) ((W1.alloc (.cells #[sV p, sV n, sV v, .bool false] TMk (0, 0))).alloc (.cells #[.string ⟨#[]⟩, sV n, sV v] TA3 (0, 0)))) := hid ⟨HE2.out, HO2.out, HN2.out, HA2.out, HMb2.out⟩
             have k2 := HN2.out.cell 2
             clear bA hMa bB hMb hMa2 b2 HE2 HO2 HN2 HA2 HMb2 HSK HAN HAD HAP m0
             rw [hMbe] at HJ HJB
             clear hMbe
             go_wp2
             clear m1 m3 k2 c0 c1 c2 c3 hr hr2
             obtain ⟨Mb, hMb⟩ : ∃ Mb, Ma + 1 = Mb := ⟨_, rfl⟩
             rw [hMb] at HJ HJB ⊢
             clear hMb
             go_loopw [191] (fun i wr => ∃ j : Nat, j ≤ nAl ∧ i = .int .i64 j ∧ Hid ((fun W => E1S X R M B #[sV pn, sV nn, .string ⟨#[]⟩, .bool hbN] w s s2 (some ⟨bb, off, none⟩) ms W ∧ W.ownsRow B TSp 2 (.slice A12 n12 c12) n12 (cS (sc ++ declsX ms)) ∧ Blk N (.cells #[sV q9, sV nn, (.slice Aa nAl ca), .slice none 0 0, .string ⟨#[]⟩] TNo) W ∧ W.ownsRow (N + 1) TA3 3 (.slice Aa nAl ca) nAl (cA al) ∧ Blk Mb (.cells #[.string ⟨#[]⟩, sV n, sV v] TA3 (0, 0)) W) wr) ∧ Hid (∀ j' (hj : j' < al.length), j' < j → ¬ (al[j'].1 = [] ∧ al[j'].2.1 = n))) (fun i _ => nAl - (RowKit.intOf i).toNat)
             case atStart => exact ⟨0, Nat.zero_le _, rfl, HJ, hid (fun _ _ h => absurd h (Nat.not_lt_zero _))⟩
             case round =>
              clear HJ
              obtain ⟨j, hj, rfl, HJ, HNJ⟩ := hrel
              obtain ⟨V0, hV0⟩ : ∃ V0, V0 = wr := ⟨_, rfl⟩
              subst hV0
              by_cases hjt : j < nAl
              ·have hjl : j < al.length := by rw [HNAl.out]; exact hjt
               obtain ⟨bb2, off2, hA2, hT2, hbl2, hcl2⟩ := own_rc HJ.out.2.2.2.1 (fun _ => True) (fun _ _ => trivial) (by rw [cA_len]; omega)
               obtain ⟨c0, c1, c2⟩ := RC.a3 hcl2 j hjl
               have HNX : Hid (¬ (al[j].1 = [] ∧ al[j].2.1 = n) → ∀ j' (hj : j' < al.length), j' < j + 1 → ¬ (al[j'].1 = [] ∧ al[j'].2.1 = n)) := hid (fun h i hi hij => by
                rcases Nat.lt_or_ge i j with h2 | h2
                ·exact HNJ.out i hi h2
                ·obtain rfl : i = j := by omega
                 exact h)
               have HDj := hid (HADq.out j hjl)
               obtain ⟨a2, ha2⟩ : ∃ a, al[j] = a := ⟨_, rfl⟩
               rw [ha2] at c0 c1 c2 HNX HDj
               obtain ⟨⟨sp2, n2, v2⟩, rfl⟩ : ∃ x : XA, a2 = x := ⟨_, rfl⟩
               simp only at c0 c1 c2
               subst hA2
               have b2 := below_alloc8 V0 (.cells #[sV sp2, sV n2, sV v2] TA3 (0, 0))
               have HJ2 := hid (HJB.out _ _ HJ.out b2)
               have a0 := HJ2.out.2.2.2.2.cell 0
               have a1 := HJ2.out.2.2.2.2.cell 1
               clear ha2 hcl2 b2 hT2 hbl2
               by_cases hss : [] = sp2
               ·have g1 : (bs sp2).toList = [] := by rw [bs_toList]; exact hss.symm
                have g1c : (([] : Bt) == (bs sp2).toList) = true := by rw [g1]; rfl
                have g1d : (bs sp2).toList.isEmpty = true := by rw [g1]; rfl
                by_cases hnn : n = n2
                ·have g2 : ((bs n).toList == (bs n2).toList) = true := by rw [hnn]; exact beq_self_eq_true _
                 have g2b : (bs n).toList = (bs n2).toList := by rw [hnn]
                 have HF : Hid (o = .error 70) := hid (HDj.out ⟨hss.symm, hnn.symm⟩)
                 have hRx := HJ2.out.1.res
                 have HOx := hid HJ2.out.1.off
                 clear hss hnn
                 go_wp2_with (guard_target =~ Go.wpList _ _ _ ({ dst := none, op := Go.Op.store TNo _ _, type := _, pos := _, after := _, guard := none } :: _) _ _; refine stN5 rfl rfl (all5 rfl rfl rfl rfl rfl) hRx ?_)
                 intro wz hz oz
                 have d0 := hz.cell 0
                 have d1 := hz.cell 1
                 have d2 := hz.cell 2
                 have d3 := hz.cell 3
                 have d4 := hz.cell 4
                 have HOz := hid (OX.new HOx.out oz hRw)
                 clear hz oz
                 go_wp2
                 refine bodyPost_ret (v := .tuple #[zNV, .int .i64 70]) ?_ rfl ?_
                 ·simp [results, Tryz.results34, go_sem, d0, d1, d2, d3, d4]
                 exact ElO.bad HF.out (by decide) HOz.out
                ·have g2b : ¬ (bs n).toList = (bs n2).toList := by rw [bs_toList, bs_toList]; exact hnn
                 have g2 : ((bs n).toList == (bs n2).toList) = false := beq_eq_false_iff_ne.2 g2b
                 have HNn := hid (HNX.out (fun h => hnn h.2.symm))
                 clear hss hnn
                 go_wp2
                 go_roundw
                 case rel => exact ⟨j + 1, by omega, by go_num, HJ2, HNn⟩
                 case measure => simp [RowKit.intOf]; omega
               ·obtain ⟨g1, g1d, g1e⟩ := bs_ne9 (fun h => hss h.symm)
                have g1b : ¬ ([] : Bt) = (bs sp2).toList := fun h => g1 h.symm
                have g1c : (([] : Bt) == (bs sp2).toList) = false := beq_eq_false_iff_ne.2 g1b
                have HNn := hid (HNX.out (fun h => hss h.1.symm))
                clear hss
                go_wp2
                go_roundw
                case rel => exact ⟨j + 1, by omega, by go_num, HJ2, HNn⟩
                case measure => simp [RowKit.intOf]; omega
              ·obtain rfl : nAl = j := by omega
               have HGn := hid (HAPq.out (fun j' hj' => HNJ.out j' hj' (by rw [← HNAl.out]; exact hj')))
               have n2 := HJ.out.2.2.1.cell 2
               have a0 := HJ.out.2.2.2.2.cell 0
               have a1 := HJ.out.2.2.2.2.cell 1
               have a2 := HJ.out.2.2.2.2.cell 2
               have hl9 : nAl ≤ 1000000 := by have := HAL.out; omega
               have hNw : N + 1 ≤ V0.heap.size := HJ.out.2.2.1.lt
               clear hjt
               go_wp2_with (at_builtin; refine appR rfl _ _ 24 TA3 3 48 _ Tryz.underlying24 Tryz.info8A rfl (by decide) (by decide) rfl V0 (N + 1) (.slice Aa nAl ca) nAl (cA al) [.string ⟨#[]⟩, sV n, sV v] rfl (by intro u hu; simp only [List.mem_cons, List.not_mem_nil, or_false] at hu; rcases hu with rfl | rfl | rfl <;> rfl) rfl (by exact HJ.out.2.2.2.1) rfl hl9 hNw ?_)
               intro v' w9 hown hoff _
               obtain ⟨Ab, cb, rfl⟩ := own_form hown
               have hge : ∀ b, (Value.slice Aa nAl ca).ownBlock = some b → N + 1 ≤ b := fun b hb => (World.ownsRow.lt HJ.out.2.2.2.1 b hb).1
               have hE9 := HJ.out.1.step hoff (fun b hb => by have := hge b hb; omega)
               have hO9 := own_off HJ.out.2.1 hoff (fun b hb e => by have := hge b e; have := HKN.out b hb; omega)
               have hN9 := hoff.blk HJ.out.2.2.1 (fun e => by have := hge N e; omega)
               have m2 := hN9.cell 2
               have f2 := hN9.free 2
               have ho9 : OX N w9 (w9.setCell ⟨N, 2, none⟩ (.slice Ab (nAl + 1) cb)) := off_set8 _ _ _ _
               have HE9 := hid (hE9.step ho9 (fun b hb => by omega))
               have HO9 := hid (own_off hO9 ho9 (fun b hb e => by have := HKN.out b hb; omega))
               have HN9 : Hid (Blk N (.cells #[sV q9, sV nn, (.slice Ab (nAl + 1) cb), .slice none 0 0, .string ⟨#[]⟩] TNo) (w9.setCell ⟨N, 2, none⟩ (.slice Ab (nAl + 1) cb))) := hid (by simpa using hN9.set 2 (.slice Ab (nAl + 1) cb))
               have HA9 : Hid ((w9.setCell ⟨N, 2, none⟩ (.slice Ab (nAl + 1) cb)).ownsRow (N + 1) TA3 3 (.slice Ab (nAl + 1) cb) (al ++ [([], n, v)]).length (cA (al ++ [([], n, v)]))) := hid (by
                rw [cA_snoc, List.length_append, List.length_singleton, HNAl.out]
                exact own_off hown ho9 (fun b hb e => by have := (World.ownsRow.lt hown b hb).1; omega))
               have hsl9 : ∃ A n c, Value.slice Ab (nAl + 1) cb = .slice A n c := ⟨_, _, _, rfl⟩
               clear hown hoff hge hE9 hO9 hN9 ho9 n2 a0 a1 a2 hsl9
               go_wp2
               go_roundw
               case rel => exact ⟨k + 1, al ++ [([], n, v)], _, by omega, by go_num, HE9, HO9, HN9, HA9, HGn, hid (by rw [List.length_append, List.length_singleton, HNAl.out]; have := HAL.out; omega)⟩
               case measure => simp [RowKit.intOf]; omega
          ·have hc3 : (!(p == ([] : Bt))) = true := by rw [beq_false_of_ne hp0]; rfl
           rw [hc3] at c3
           have HP0 := hid hp0
           clear hc3 hp0
           by_cases hx0 : p = xmlnsW
           ·have HDC : Hid (declX ((p, n), v) = some n) := hid (by unfold declX; rw [if_pos hx0])
            have hr : ((bs p).toList == [120, 109, 108, 110, 115]) = true := by rw [bs_toList, hx0]; rfl
            have hr2 : (bs p).toList = [120, 109, 108, 110, 115] := by rw [bs_toList, hx0]; rfl
            clear hx0
            as_aux_lemma =>
             have hg := HSK.out n HDC.out
             have b1 := below_alloc8 W1 (.cells #[sV p, sV n, sV v, .bool true] TMk (0, 0))
             have HEn := hid (HE1.out.below b1)
             have HOn := hid (own_off HOW.out (Off.of_below b1) (fun _ _ h => h))
             have HNn := hid ((Off.of_below b1).blk HNB.out (fun h => h))
             have HAn := hid (own_off HAW.out (Off.of_below b1) (fun _ _ h => h))
             have HGn := hid hg
             clear hg b1
             go_wp2
             go_roundw
             case rel => exact ⟨k + 1, al, _, by omega, by go_num, HEn, HOn, HNn, by rw [HNAl.out]; exact HAn, HGn, hid (by rw [HNAl.out]; have := HAL.out; omega)⟩
             case measure => simp [RowKit.intOf]; omega
           ·have HDC : Hid (declX ((p, n), v) = none) := hid (by unfold declX; rw [if_neg hx0, if_neg (fun h => HP0.out h.1)])
            have hr : ((bs p).toList == [120, 109, 108, 110, 115]) = false := by rw [bs_toList]; exact beq_eq_false_iff_ne.2 hx0
            have hr2 : ¬ (bs p).toList = [120, 109, 108, 110, 115] := by rw [bs_toList]; exact hx0
            clear hx0
            as_aux_lemma =>
             have bA := below_alloc8 W1 (.cells #[sV p, sV n, sV v, .bool true] TMk (0, 0))
             have hMa := Blk.new (.cells #[sV p, sV n, sV v, .bool true] TMk (0, 0)) W1
             have bB := below_alloc8 (W1.alloc (.cells #[sV p, sV n, sV v, .bool true] TMk (0, 0))) (.cells #[.string ⟨#[]⟩, sV n, sV v] TA3 (0, 0))
             have hMb := Blk.new (.cells #[.string ⟨#[]⟩, sV n, sV v] TA3 (0, 0)) (W1.alloc (.cells #[sV p, sV n, sV v, .bool true] TMk (0, 0)))
             obtain ⟨Ma, hMae⟩ : ∃ M, W1.heap.size = M := ⟨_, rfl⟩
             obtain ⟨Mb, hMbe⟩ : ∃ Mb, Mb = Ma + 1 := ⟨_, rfl⟩
             rw [show (W1.alloc (.cells #[sV p, sV n, sV v, .bool true] TMk (0, 0))).heap.size = Mb by simp [hMae, hMbe]] at hMb
             rw [hMae] at hMa
             have hMa2 := (Off.of_below bB).blk hMa (fun h => h)
             have b2 := bA.trans (bB.mono bA.size)
             have HE2 := hid (HE1.out.below b2)
             have HO2 := hid (own_off HOW.out (Off.of_below b2) (fun _ _ h => h))
             have HN2 := hid ((Off.of_below b2).blk HNB.out (fun h => h))
             have HA2 := hid (own_off HAW.out (Off.of_below b2) (fun _ _ h => h))
             have HMb2 := hid hMb
             have hNMa : N < Ma := by have := HNB.out.lt; omega
             have HMBA : Hid (∀ b, (Value.slice Aa nAl ca).ownBlock = some b → b < Ma) := hid (fun b hb => by have := (World.ownsRow.lt HAW.out b hb).2; omega)
             have HMEQ := hid hMbe
             have hnAl9 : nAl ≤ 70000 := by have := HAL.out; omega
             have m0 := hMa2.cell 0
             have m1 := hMa2.cell 1
             have m3 := hMa2.cell 3
             obtain ⟨f9, hf9⟩ : ∃ x, findX (sc ++ declsX ms) p = x := ⟨_, rfl⟩
             have HF9 := hid hf9
             have HFC := hid (HRCN.out _ HO2.out p)
             unfold FdV at HFC
             rw [hf9] at HFC
             clear hf9
             cases f9 with
             | none =>
              have HF : Hid (o = .error 70) := hid (HAN.out HDC.out (by unfold attrX; rw [if_neg HP0.out]; show (findX (sc ++ declsX ms) p).map _ = none; rw [HF9.out]; rfl))
              have hRx := HE2.out.res
              have HOx := hid HE2.out.off
              clear bA hMa bB hMb hMa2 b2 HO2 HN2 HA2 HMb2 HSK HAN HAD HAP
              go_wp2_with fail
              refine HFC.out.mono ?_
              rintro e w5 ⟨rfl, rfl⟩
              go_wp2_with (guard_target =~ Go.wpList _ _ _ ({ dst := none, op := Go.Op.store TNo _ _, type := _, pos := _, after := _, guard := none } :: _) _ _; refine stN5 rfl rfl (all5 rfl rfl rfl rfl rfl) hRx ?_)
              intro wz hz oz
              have d0 := hz.cell 0
              have d1 := hz.cell 1
              have d2 := hz.cell 2
              have d3 := hz.cell 3
              have d4 := hz.cell 4
              have HOz := hid (OX.new HOx.out oz hRw)
              clear hz oz
              go_wp2
              refine bodyPost_ret (v := .tuple #[zNV, .int .i64 70]) ?_ rfl ?_
              ·simp [results, Tryz.results34, go_sem, d0, d1, d2, d3, d4]
              exact ElO.bad HF.out (by decide) HOz.out
             | some sp9 =>
              have hat : attrX (sc ++ declsX ms) ((p, n), v) = some (sp9, n, v) := by unfold attrX; rw [if_neg HP0.out]; show (findX (sc ++ declsX ms) p).map _ = _; rw [HF9.out]; rfl
              have HADq := hid (fun j hj => HAD.out (sp9, n, v) j hj HDC.out hat)
              have HAPq := hid (fun hd => HAP.out (sp9, n, v) HDC.out hat hd)
              have HJB : Hid (∀ W W', (E1S X R M B #[sV pn, sV nn, .string ⟨#[]⟩, .bool hbN] w s s2 (some ⟨bb, off, none⟩) ms W ∧ W.ownsRow B TSp 2 (.slice A12 n12 c12) n12 (cS (sc ++ declsX ms)) ∧ Blk N (.cells #[sV q9, sV nn, (.slice Aa nAl ca), .slice none 0 0, .string ⟨#[]⟩] TNo) W ∧ W.ownsRow (N + 1) TA3 3 (.slice Aa nAl ca) nAl (cA al) ∧ Blk Mb (.cells #[sV sp9, sV n, sV v] TA3 (0, 0)) W) → Below W.heap.size W W' → (fun W => E1S X R M B #[sV pn, sV nn, .string ⟨#[]⟩, .bool hbN] w s s2 (some ⟨bb, off, none⟩) ms W ∧ W.ownsRow B TSp 2 (.slice A12 n12 c12) n12 (cS (sc ++ declsX ms)) ∧ Blk N (.cells #[sV q9, sV nn, (.slice Aa nAl ca), .slice none 0 0, .string ⟨#[]⟩] TNo) W ∧ W.ownsRow (N + 1) TA3 3 (.slice Aa nAl ca) nAl (cA al) ∧ Blk Mb (.cells #[sV sp9, sV n, sV v] TA3 (0, 0)) W) W') := hid (fun W W' h b => ⟨h.1.below b, own_off h.2.1 (Off.of_below b) (fun _ _ h => h), (Off.of_below b).blk h.2.2.1 (fun h => h), own_off h.2.2.2.1 (Off.of_below b) (fun _ _ h => h), (Off.of_below b).blk h.2.2.2.2 (fun h => h)⟩)
              clear bA hMa bB hMb hMa2 b2 HSK HAN HAD HAP hat
              go_wp2_with fail
              refine HFC.out.mono ?_
              rintro e w5 ⟨rfl, rfl⟩
              clear HFC
              obtain ⟨W5, hW5⟩ : ∃ W, W = (W1.alloc (.cells #[sV p, sV n, sV v, .bool true] TMk (0, 0))).alloc (.cells #[.string ⟨#[]⟩, sV n, sV v] TA3 (0, 0)) := ⟨_, rfl⟩
              rw [← hW5] at HE2 HO2 HN2 HA2 HMb2 m0 m1 m3 ⊢
              clear hW5 m0 m1 m3
              have hgo := HMb2.out
              have f0 := hgo.free 0
              have a0 := hgo.cell 0
              have ho9 : OX Mb W5 (W5.setCell ⟨Mb, 0, none⟩ (sV sp9)) := off_set8 _ _ _ _
              have HJ : Hid ((fun W => E1S X R M B #[sV pn, sV nn, .string ⟨#[]⟩, .bool hbN] w s s2 (some ⟨bb, off, none⟩) ms W ∧ W.ownsRow B TSp 2 (.slice A12 n12 c12) n12 (cS (sc ++ declsX ms)) ∧ Blk N (.cells #[sV q9, sV nn, (.slice Aa nAl ca), .slice none 0 0, .string ⟨#[]⟩] TNo) W ∧ W.ownsRow (N + 1) TA3 3 (.slice Aa nAl ca) nAl (cA al) ∧ Blk Mb (.cells #[sV sp9, sV n, sV v] TA3 (0, 0)) W) (W5.setCell ⟨Mb, 0, none⟩ (sV sp9))) := hid ⟨HE2.out.step ho9 (fun b hb => by omega), own_off HO2.out ho9 (fun b hb e => by have := HKN.out b hb; omega), ho9.blk HN2.out (fun e => by omega), own_off HA2.out ho9 (fun b hb e => by have := HMBA.out b hb; omega), by simpa using hgo.set 0 (sV sp9)⟩
              have k2 := HJ.out.2.2.1.cell 2
              clear hgo ho9 HE2 HO2 HN2 HA2 HMb2
              rw [hMbe] at HJ HJB f0 a0 k2
              clear hMbe
              go_wp2
              clear f0 a0 k2 c0 c1 c2 c3 hr hr2
              obtain ⟨Mb, hMb⟩ : ∃ Mb, Ma + 1 = Mb := ⟨_, rfl⟩
              rw [hMb] at HJ HJB ⊢
              clear hMb
              go_loopw [191] (fun i wr => ∃ j : Nat, j ≤ nAl ∧ i = .int .i64 j ∧ Hid ((fun W => E1S X R M B #[sV pn, sV nn, .string ⟨#[]⟩, .bool hbN] w s s2 (some ⟨bb, off, none⟩) ms W ∧ W.ownsRow B TSp 2 (.slice A12 n12 c12) n12 (cS (sc ++ declsX ms)) ∧ Blk N (.cells #[sV q9, sV nn, (.slice Aa nAl ca), .slice none 0 0, .string ⟨#[]⟩] TNo) W ∧ W.ownsRow (N + 1) TA3 3 (.slice Aa nAl ca) nAl (cA al) ∧ Blk Mb (.cells #[sV sp9, sV n, sV v] TA3 (0, 0)) W) wr) ∧ Hid (∀ j' (hj : j' < al.length), j' < j → ¬ (al[j'].1 = sp9 ∧ al[j'].2.1 = n))) (fun i _ => nAl - (RowKit.intOf i).toNat)
              case atStart => exact ⟨0, Nat.zero_le _, rfl, HJ, hid (fun _ _ h => absurd h (Nat.not_lt_zero _))⟩
              case round =>
               clear HJ
               obtain ⟨j, hj, rfl, HJ, HNJ⟩ := hrel
               obtain ⟨V0, hV0⟩ : ∃ V0, V0 = wr := ⟨_, rfl⟩
               subst hV0
               by_cases hjt : j < nAl
               ·have hjl : j < al.length := by rw [HNAl.out]; exact hjt
                obtain ⟨bb2, off2, hA2, hT2, hbl2, hcl2⟩ := own_rc HJ.out.2.2.2.1 (fun _ => True) (fun _ _ => trivial) (by rw [cA_len]; omega)
                obtain ⟨c0, c1, c2⟩ := RC.a3 hcl2 j hjl
                have HNX : Hid (¬ (al[j].1 = sp9 ∧ al[j].2.1 = n) → ∀ j' (hj : j' < al.length), j' < j + 1 → ¬ (al[j'].1 = sp9 ∧ al[j'].2.1 = n)) := hid (fun h i hi hij => by
                 rcases Nat.lt_or_ge i j with h2 | h2
                 ·exact HNJ.out i hi h2
                 ·obtain rfl : i = j := by omega
                  exact h)
                have HDj := hid (HADq.out j hjl)
                obtain ⟨a2, ha2⟩ : ∃ a, al[j] = a := ⟨_, rfl⟩
                rw [ha2] at c0 c1 c2 HNX HDj
                obtain ⟨⟨sp2, n2, v2⟩, rfl⟩ : ∃ x : XA, a2 = x := ⟨_, rfl⟩
                simp only at c0 c1 c2
                subst hA2
                have b2 := below_alloc8 V0 (.cells #[sV sp2, sV n2, sV v2] TA3 (0, 0))
                have HJ2 := hid (HJB.out _ _ HJ.out b2)
                have a0 := HJ2.out.2.2.2.2.cell 0
                have a1 := HJ2.out.2.2.2.2.cell 1
                clear ha2 hcl2 b2 hT2 hbl2
                by_cases hss : sp9 = sp2
                ·have g1 : ((bs sp9).toList == (bs sp2).toList) = true := by rw [hss]; exact beq_self_eq_true _
                 have g1b : (bs sp9).toList = (bs sp2).toList := by rw [hss]
                 by_cases hnn : n = n2
                 ·have g2 : ((bs n).toList == (bs n2).toList) = true := by rw [hnn]; exact beq_self_eq_true _
                  have g2b : (bs n).toList = (bs n2).toList := by rw [hnn]
                  have HF : Hid (o = .error 70) := hid (HDj.out ⟨hss.symm, hnn.symm⟩)
                  have hRx := HJ2.out.1.res
                  have HOx := hid HJ2.out.1.off
                  clear hss hnn
                  go_wp2_with (guard_target =~ Go.wpList _ _ _ ({ dst := none, op := Go.Op.store TNo _ _, type := _, pos := _, after := _, guard := none } :: _) _ _; refine stN5 rfl rfl (all5 rfl rfl rfl rfl rfl) hRx ?_)
                  intro wz hz oz
                  have d0 := hz.cell 0
                  have d1 := hz.cell 1
                  have d2 := hz.cell 2
                  have d3 := hz.cell 3
                  have d4 := hz.cell 4
                  have HOz := hid (OX.new HOx.out oz hRw)
                  clear hz oz
                  go_wp2
                  refine bodyPost_ret (v := .tuple #[zNV, .int .i64 70]) ?_ rfl ?_
                  ·simp [results, Tryz.results34, go_sem, d0, d1, d2, d3, d4]
                  exact ElO.bad HF.out (by decide) HOz.out
                 ·have g2b : ¬ (bs n).toList = (bs n2).toList := by rw [bs_toList, bs_toList]; exact hnn
                  have g2 : ((bs n).toList == (bs n2).toList) = false := beq_eq_false_iff_ne.2 g2b
                  have HNn := hid (HNX.out (fun h => hnn h.2.symm))
                  clear hss hnn
                  go_wp2
                  go_roundw
                  case rel => exact ⟨j + 1, by omega, by go_num, HJ2, HNn⟩
                  case measure => simp [RowKit.intOf]; omega
                ·have g1b : ¬ (bs sp9).toList = (bs sp2).toList := by rw [bs_toList, bs_toList]; exact hss
                 have g1 : ((bs sp9).toList == (bs sp2).toList) = false := beq_eq_false_iff_ne.2 g1b
                 have HNn := hid (HNX.out (fun h => hss h.1.symm))
                 clear hss
                 go_wp2
                 go_roundw
                 case rel => exact ⟨j + 1, by omega, by go_num, HJ2, HNn⟩
                 case measure => simp [RowKit.intOf]; omega
               ·obtain rfl : nAl = j := by omega
                have HGn := hid (HAPq.out (fun j' hj' => HNJ.out j' hj' (by rw [← HNAl.out]; exact hj')))
                have n2 := HJ.out.2.2.1.cell 2
                have a0 := HJ.out.2.2.2.2.cell 0
                have a1 := HJ.out.2.2.2.2.cell 1
                have a2 := HJ.out.2.2.2.2.cell 2
                have hl9 : nAl ≤ 1000000 := by have := HAL.out; omega
                have hNw : N + 1 ≤ V0.heap.size := HJ.out.2.2.1.lt
                clear hjt
                go_wp2_with (at_builtin; refine appR rfl _ _ 24 TA3 3 48 _ Tryz.underlying24 Tryz.info8A rfl (by decide) (by decide) rfl V0 (N + 1) (.slice Aa nAl ca) nAl (cA al) [sV sp9, sV n, sV v] rfl (by intro u hu; simp only [List.mem_cons, List.not_mem_nil, or_false] at hu; rcases hu with rfl | rfl | rfl <;> rfl) rfl (by exact HJ.out.2.2.2.1) rfl hl9 hNw ?_)
                intro v' w9 hown hoff _
                obtain ⟨Ab, cb, rfl⟩ := own_form hown
                have hge : ∀ b, (Value.slice Aa nAl ca).ownBlock = some b → N + 1 ≤ b := fun b hb => (World.ownsRow.lt HJ.out.2.2.2.1 b hb).1
                have hE9 := HJ.out.1.step hoff (fun b hb => by have := hge b hb; omega)
                have hO9 := own_off HJ.out.2.1 hoff (fun b hb e => by have := hge b e; have := HKN.out b hb; omega)
                have hN9 := hoff.blk HJ.out.2.2.1 (fun e => by have := hge N e; omega)
                have m2 := hN9.cell 2
                have f2 := hN9.free 2
                have ho9 : OX N w9 (w9.setCell ⟨N, 2, none⟩ (.slice Ab (nAl + 1) cb)) := off_set8 _ _ _ _
                have HE9 := hid (hE9.step ho9 (fun b hb => by omega))
                have HO9 := hid (own_off hO9 ho9 (fun b hb e => by have := HKN.out b hb; omega))
                have HN9 : Hid (Blk N (.cells #[sV q9, sV nn, (.slice Ab (nAl + 1) cb), .slice none 0 0, .string ⟨#[]⟩] TNo) (w9.setCell ⟨N, 2, none⟩ (.slice Ab (nAl + 1) cb))) := hid (by simpa using hN9.set 2 (.slice Ab (nAl + 1) cb))
                have HA9 : Hid ((w9.setCell ⟨N, 2, none⟩ (.slice Ab (nAl + 1) cb)).ownsRow (N + 1) TA3 3 (.slice Ab (nAl + 1) cb) (al ++ [(sp9, n, v)]).length (cA (al ++ [(sp9, n, v)]))) := hid (by
                 rw [cA_snoc, List.length_append, List.length_singleton, HNAl.out]
                 exact own_off hown ho9 (fun b hb e => by have := (World.ownsRow.lt hown b hb).1; omega))
                have hsl9 : ∃ A n c, Value.slice Ab (nAl + 1) cb = .slice A n c := ⟨_, _, _, rfl⟩
                clear hown hoff hge hE9 hO9 hN9 ho9 n2 a0 a1 a2 hsl9
                go_wp2
                go_roundw
                case rel => exact ⟨k + 1, al ++ [(sp9, n, v)], _, by omega, by go_num, HE9, HO9, HN9, HA9, HGn, hid (by rw [List.length_append, List.length_singleton, HNAl.out]; have := HAL.out; omega)⟩
                case measure => simp [RowKit.intOf]; omega
        ·obtain rfl : nM = k := by omega
         as_aux_lemma =>
          have HST : Hid (startX sc (pn, nn) ms = some (.mk q9 nn al [] [], (sc ++ declsX ms))) := hid (start_end HGS.out HFS.out (by have := HA.out; rwa [HTK.out] at this))
          have HGD := hid (HGOOD.out _ _ HST.out)
          obtain ⟨nAl, hnAl⟩ : ∃ n, al.length = n := ⟨_, rfl⟩
          have HNAl := hid hnAl
          rw [hnAl] at HNB HAW
          have hRN : R < N := by have := HE1.out.rB; omega
          have HNS : Hid (NSt w.heap.size R N q9 nn al (allX [] []) (.slice Aa nAl ca) (.slice none 0 0) [] W1) := hid ⟨HNB.out, World.ownsRow_nil _ _ _ _, rfl, ⟨Aa, ca, by rw [hnAl], own_rc HAW.out _ (fun b hb => by have := World.ownsRow.lt HAW.out b hb; exact ⟨by omega, this.2, by omega, by omega, fun e => by cases e⟩)⟩, hRw, hRN⟩
          have HRS : Hid (RC W1 (fun b => b < N ∧ b ≠ X) A12 (cS (sc ++ declsX ms))) := hid (own_rc HOW.out _ (fun b hb => by have h1 := HKN.out b hb; have h2 := HE1.out.xB; exact ⟨h1.2, by omega⟩))
          have HB0 : Hid (Blk R ZN W1 ∧ Blk M (.cells #[sV pn, sV nn, .string ⟨#[]⟩, .bool hbN] TMk (0, 0)) W1 ∧ OX X w W1 ∧ TL X s s2 W1) := hid ⟨HE1.out.res, HE1.out.mark, HE1.out.off, HE1.out.tl⟩
          have hMN : M < N := by omega
          clear hnAl hlt HE1 HOW HNB HAW HA HAL HBAD HGOOD HFS HFD HG HGS HST hk hk2
          by_cases hd24 : d = 24
          ·have HF : Hid (o = .error 71) := hid (by rw [HGD.out, if_pos hd24])
           have hdi : (d : Int) = 24 := by omega
           have hdj : ((d : Int) == 24) = true := by simpa using hdi
           have hRx := HB0.out.1
           have HOx := hid HB0.out.2.2.1
           clear hd24
           go_wp2_with (guard_target =~ Go.wpList _ _ _ ({ dst := none, op := Go.Op.store TNo _ _, type := _, pos := _, after := _, guard := none } :: _) _ _; refine stN5 rfl rfl (all5 rfl rfl rfl rfl rfl) hRx ?_)
           intro wz hz oz
           have d0 := hz.cell 0
           have d1 := hz.cell 1
           have d2 := hz.cell 2
           have d3 := hz.cell 3
           have d4 := hz.cell 4
           have HOz := hid (OX.new HOx.out oz hRw)
           clear hz oz
           go_wp2
           refine bodyPost_ret (v := .tuple #[zNV, .int .i64 71]) ?_ rfl ?_
           ·simp [results, Tryz.results34, go_sem, d0, d1, d2, d3, d4]
           exact ElO.bad HF.out (by decide) HOz.out
          ·have hdi : ¬ (d : Int) = 24 := by omega
           have hdj : ((d : Int) == 24) = false := by simpa using hdi
           have HEL2 := hid (HEL.out (by omega))
           have hd23 : d ≤ 23 := by omega
           cases cl with
           | true => as_aux_lemma =>
            have HF : Hid (o = .ok (.mk q9 nn al [] [], s2)) := hid (by rw [HGD.out, if_neg hd24, if_pos rfl])
            obtain ⟨Aa', ca', kA', kc', e1, e2, hxr⟩ := HNS.out.xr
            rw [HNAl.out] at e1 hxr
            rw [allX_nil] at hxr e2
            injection e1 with e3 e4 e5
            injection e2 with e6 e7 e8
            clear e4 e7
            subst e3; subst e5; subst e6; subst e8
            have HXR := hid hxr
            have hres := HB0.out.1
            clear hxr hd24
            have n0 := HNS.out.blk.cell 0
            have n1 := HNS.out.blk.cell 1
            have n2 := HNS.out.blk.cell 2
            have n3 := HNS.out.blk.cell 3
            have n4 := HNS.out.blk.cell 4
            go_wp2_with (guard_target =~ Go.wpList _ _ _ ({ dst := none, op := Go.Op.store TNo _ _, type := _, pos := _, after := _, guard := none } :: _) _ _; refine stN5 rfl rfl (all5 rfl rfl rfl rfl rfl) hres ?_)
            intro wz hz oz
            have d0 := hz.cell 0
            have d1 := hz.cell 1
            have d2 := hz.cell 2
            have d3 := hz.cell 3
            have d4 := hz.cell 4
            have HOz := hid (OX.new HB0.out.2.2.1 oz hRw)
            have HTz := hid (HB0.out.2.2.2.off oz (fun e => by omega))
            have HXz := hid (XR.mono (T' := fun b => w.heap.size ≤ b ∧ b < wz.heap.size) (fun b hb => ⟨hb.1, Nat.lt_of_lt_of_le hb.2.1 oz.size⟩) _ _ (XR.off oz (fun b hb e => hb.2.2 e) _ _ HXR.out))
            clear hz oz
            go_wp2
            refine bodyPost_ret (v := .tuple #[.agg #[sV q9, sV nn, .slice Aa nAl ca, .slice none 0 0, .string ⟨#[]⟩], .int .i64 0]) ?_ rfl ?_
            ·simp [results, Tryz.results34, go_sem, d0, d1, d2, d3, d4]
            rw [HF.out]
            exact ⟨HOz.out, _, rfl, HXz.out, HTz.out, HVN.out.ne⟩
           | false =>
            have HGK : Hid (o = match kidsX (d + 1) (sc ++ declsX ms) s2 [] [] with
             | .error e => .error e
             | .ok (ks, s3) => match (match markL s3 with | none => none | some (nm', r) => if nm' = (pn, nn) then wordL [62] (blanksL r) else none) with
              | none => .error 70
              | some s4 => .ok ((XV.mk q9 nn al [] []).withKids ks, s4)) := hid (by rw [HGD.out, if_neg hd24, if_neg Bool.false_ne_true])
            have HSCL : Hid ((sc ++ declsX ms).length + s2.length ≤ 100000) := hid (by have h1 := HSC.out; have h2 := decls_len ms; rw [List.length_append]; rw [HNM.out] at h2; omega)
            obtain ⟨n9, hn9s⟩ : ∃ n, s.length = n := ⟨_, rfl⟩
            have HN9 := hid hn9s
            have HPC : Hid (∀ W q ks t kv cs, TL X s q W → NSt w.heap.size R N q9 nn al (allX ks t) (.slice Aa nAl ca) kv cs W → LastE ks → RC W (fun b => b < N ∧ b ≠ X) A12 (cS (sc ++ declsX ms)) → 2 * ks.length + t.length + 2 * q.length ≤ 2 * s2.length → Calls Tryz.prog 59 #[.pointer (some ⟨X, 0, none⟩), .pointer (some ⟨N, 0, none⟩), .int .i64 d, .slice A12 n12 c12] W (PcO X w.heap.size R N s q9 nn al (.slice Aa nAl ca) (pieceX (d + 1) (sc ++ declsX ms) q ks t) W)) := hid (fun W q ks t kv cs h1 h2 h3 h4 h5 => by
             have h := tpiece8 (c := c12) HEL2.out hd23 h1 h2 h3 h4 (fun b hb => hb) (by omega) HS9.out (by have := hnM9; omega) (by have := HSCL.out; omega) HFD2.out _ rfl
             rw [← HLN.out] at h
             exact h)
            unfold PcO at HPC
            clear HGD HEL HEL2 hn9s hd24 HSPR HTV HSC HNMS
            go_wp2
            clear hdi hdj
            go_loopw [] (fun wr => ∃ q ks t kv cs, Hid (Blk R ZN wr ∧ Blk M (.cells #[sV pn, sV nn, .string ⟨#[]⟩, .bool hbN] TMk (0, 0)) wr ∧ OX X w wr ∧ TL X s q wr) ∧ Hid (NSt w.heap.size R N q9 nn al (allX ks t) (.slice Aa nAl ca) kv cs wr) ∧ Hid (RC wr (fun b => b < N ∧ b ≠ X) A12 (cS (sc ++ declsX ms))) ∧ Hid (LastE ks) ∧ Hid (kidsX (d + 1) (sc ++ declsX ms) s2 [] [] = kidsX (d + 1) (sc ++ declsX ms) q ks t) ∧ Hid (2 * ks.length + t.length + 2 * q.length ≤ 2 * s2.length)) (fun wr => n9 - atOf X wr)
            case atStart => exact ⟨s2, [], [], _, [], HB0, HNS, HRS, hid LastE.nil, hid rfl, hid (by simp)⟩
            case round => as_aux_lemma =>
             clear HB0 HNS HRS
             obtain ⟨q, ks, t, kv, cs, HB0, HNS, HRS, HLE, HKX, HPO⟩ := hrel
             have HAT := hid HB0.out.2.2.2.at
             cases hw : wordL [60, 47] q with
             | none =>
              have HCw := hid (HW1.out _ q _ HB0.out.2.2.2 hw)
              have HKP := hid (kids_piece (d := d + 1) (sc := (sc ++ declsX ms)) (ks := ks) (t := t) hw)
              have HPQ := hid (fun W kv cs h1 h2 h4 => HPC.out W q ks t kv cs h1 h2 HLE.out h4 HPO.out)
              have HPP := hid (piece_part (d + 1) (sc ++ declsX ms) q ks t)
              obtain ⟨po, hpo⟩ : ∃ x, pieceX (d + 1) (sc ++ declsX ms) q ks t = x := ⟨_, rfl⟩
              rw [hpo] at HKP HPQ HPP
              clear hw hpo
              go_wp2_with fail
              refine HCw.out.mono ?_
              rintro e w5 ⟨rfl, t5, o5⟩
              have t5' : TL X s q w5 := t5
              have H5 := HNS.out.ox o5 hXl
              have HR5 := HRS.out.off o5 (fun b hb e => hb.2 e)
              have hR5 := o5.blk HB0.out.1 (fun e => by omega)
              have hM5 := o5.blk HB0.out.2.1 (fun e => by omega)
              have hO5 := OX.trans HB0.out.2.2.1 o5
              clear t5 o5
              go_wp2_with fail
              refine (HPQ.out w5 _ _ t5' H5 HR5).mono ?_
              clear HPQ t5' H5
              cases po with
              | error z => as_aux_lemma =>
               rintro e w6 ⟨o6, rfl, hz0⟩
               have HZ := hid hz0
               have HF : Hid (o = .error z) := hid (by rw [HGK.out, HKX.out, HKP.out])
               have hz1 : ((z : Int) == 0) = false := by simpa using hz0
               have hz2 : (z != 0) = true := by simpa using hz0
               have hRx := o6.blk hR5 (fun e => by rcases e with e | e <;> omega)
               have HOx : Hid (OX X w w6) := hid (Off.trans hO5 o6 (fun b hb => hb.elim .inl (fun h => .inr (by omega))))
               clear hR5 hM5 hO5 o6 HR5
               go_wp2_with (guard_target =~ Go.wpList _ _ _ ({ dst := none, op := Go.Op.store TNo _ _, type := _, pos := _, after := _, guard := none } :: _) _ _; refine stN5 rfl rfl (all5 rfl rfl rfl rfl rfl) hRx ?_)
               intro wz hz oz
               have d0 := hz.cell 0
               have d1 := hz.cell 1
               have d2 := hz.cell 2
               have d3 := hz.cell 3
               have d4 := hz.cell 4
               have HOz := hid (OX.new HOx.out oz hRw)
               clear hz oz
               go_wp2
               refine bodyPost_ret (v := .tuple #[zNV, .int .i64 z]) ?_ rfl ?_
               ·simp [results, Tryz.results34, go_sem, d0, d1, d2, d3, d4]
               exact ElO.bad HF.out HZ.out HOz.out
              | ok y => as_aux_lemma =>
               obtain ⟨q2, ks2, t2⟩ := y
               rintro e w6 ⟨o6, rfl, t6, ⟨kv6, cs6, n6⟩, l6⟩
               have hpp := part_pot (HPP.out.symm)
               have HB6 : Hid (Blk R ZN w6 ∧ Blk M (.cells #[sV pn, sV nn, .string ⟨#[]⟩, .bool hbN] TMk (0, 0)) w6 ∧ OX X w w6 ∧ TL X s q2 w6) := hid ⟨o6.blk hR5 (fun e => by rcases e with e | e <;> omega), o6.blk hM5 (fun e => by rcases e with e | e <;> omega), Off.trans hO5 o6 (fun b hb => hb.elim .inl (fun h => .inr (by omega))), t6⟩
               have HN6 := hid n6
               have HR6 := hid (HR5.off o6 (fun b hb e => by rcases e with e | e; · exact hb.2 e
                                                             ·have := hb.1; omega))
               have HL6 := hid l6
               have HK6 : Hid (kidsX (d + 1) (sc ++ declsX ms) s2 [] [] = kidsX (d + 1) (sc ++ declsX ms) q2 ks2 t2) := hid (by rw [HKX.out, HKP.out])
               have HA6 := hid t6.at
               have HPO6 : Hid (2 * ks2.length + t2.length + 2 * q2.length ≤ 2 * s2.length) := hid (by have := HPO.out; omega)
               have hlt6 : q2.length < q.length := hpp.1
               clear hR5 hM5 hO5 o6 HR5 t6 n6 l6 hpp
               go_wp2
               exact ⟨⟨q2, ks2, t2, kv6, cs6, HB6, HN6, HR6, HL6, HK6, HPO6⟩, by have h1 := HA6.out; have h2 := HAT.out; have h3 := HN9.out; omega⟩
             | some q1 =>
              have HCw := hid (HW1.out _ q _ HB0.out.2.2.2 hw)
              have HKE : Hid (o = match (match markL q1 with | none => none | some (nm', r) => if nm' = (pn, nn) then wordL [62] (blanksL r) else none) with
               | none => .error 70
               | some s4 => .ok ((XV.mk q9 nn al [] []).withKids (allX ks t), s4)) := hid (by rw [HGK.out, HKX.out, kidsX_eq, hw])
              have HMQ := hid (fun W hW oo (hoo : markL q1 = oo) => HMK.out W q1 hW oo hoo)
              clear hw HPC HGK HKX HPO
              go_wp2_with fail
              refine HCw.out.mono ?_
              rintro e w5 ⟨rfl, t5, o5⟩
              have t5' : TL X s q1 w5 := t5
              have HN5 := hid (HNS.out.ox o5 hXl)
              have HR5 := hid (o5.blk HB0.out.1 (fun e => by omega))
              have HM5 := hid (o5.blk HB0.out.2.1 (fun e => by omega))
              have HO5 := hid (OX.trans HB0.out.2.2.1 o5)
              clear t5 o5 HNS HB0 HRS HCw
              cases hm : markL q1 with
              | none => as_aux_lemma =>
               have HF : Hid (o = .error 70) := hid (by rw [HKE.out, hm])
               have HC6 := hid (HMQ.out w5 t5' _ hm)
               clear hm t5'
               go_wp2_with fail
               refine HC6.out.mono ?_
               rintro e w6 ⟨o6, a1, a2, a3, a4, q6, rfl, t6⟩
               have b7 := below_alloc8 w6 (.cells #[sV a1, sV a2, sV a3, .bool a4] TMk (0, 0))
               have t7 := t6.below b7
               have o7 := OX.trans o6 (OX.of b7)
               have HR7 := hid (o7.blk HR5.out (fun e => by omega))
               have HO7 := hid (OX.trans HO5.out o7)
               clear o6 t6 b7 o7 HC6
               go_wp2_with fail
               refine (HBL.out _ _ t7).mono ?_
               rintro e w8 ⟨rfl, t8, o8⟩
               have hRx := o8.blk HR7.out (fun e => by omega)
               have HOx := hid (OX.trans HO7.out o8)
               clear t7 t8 o8
               go_wp2_with (guard_target =~ Go.wpList _ _ _ ({ dst := none, op := Go.Op.store TNo _ _, type := _, pos := _, after := _, guard := none } :: _) _ _; refine stN5 rfl rfl (all5 rfl rfl rfl rfl rfl) hRx ?_)
               intro wz hz oz
               have d0 := hz.cell 0
               have d1 := hz.cell 1
               have d2 := hz.cell 2
               have d3 := hz.cell 3
               have d4 := hz.cell 4
               have HOz := hid (OX.new HOx.out oz hRw)
               clear hz oz
               go_wp2
               refine bodyPost_ret (v := .tuple #[zNV, .int .i64 70]) ?_ rfl ?_
               ·simp [results, Tryz.results34, go_sem, d0, d1, d2, d3, d4]
               exact ElO.bad HF.out (by decide) HOz.out
              | some y => as_aux_lemma =>
               obtain ⟨⟨p9, n99⟩, r3⟩ := y
               obtain ⟨hb9, hhb9⟩ : ∃ b, (!(p9 == ([] : Bt))) = b := ⟨_, rfl⟩
               have HC6 : Hid (Calls Tryz.prog 56 #[.pointer (some ⟨X, 0, none⟩)] w5 (fun e w' => OX X w5 w' ∧ e = .returned (.tuple #[.agg #[sV p9, sV n99, .string ⟨#[]⟩, .bool hb9], .bool true]) ∧ TL X s r3 w')) := hid ((HMQ.out w5 t5' _ hm).mono (fun e w' h => ⟨h.1, by have h2 := h.2.1; unfold MkA at h2; simp only at h2; rw [hhb9] at h2; exact h2, h.2.2⟩))
               have HKE2 : Hid (o = match (if (p9, n99) = (pn, nn) then wordL [62] (blanksL r3) else none) with
                | none => .error 70
                | some s4 => .ok ((XV.mk q9 nn al [] []).withKids (allX ks t), s4)) := hid (by rw [HKE.out, hm])
               have HHB9 := hid hhb9
               clear hm t5' hhb9 HKE HMQ
               go_wp2_with fail
               refine HC6.out.mono ?_
               rintro e w6 ⟨o6, rfl, t6⟩
               have b7 := below_alloc8 w6 (.cells #[sV p9, sV n99, .string ⟨#[]⟩, .bool hb9] TMk (0, 0))
               have hE7 := Blk.new (.cells #[sV p9, sV n99, .string ⟨#[]⟩, .bool hb9] TMk (0, 0)) w6
               have hXw6 : X < w6.heap.size := t6.lt
               have t7 := t6.below b7
               have o7 := OX.trans o6 (OX.of b7)
               have HR7 := hid (o7.blk HR5.out (fun e => by omega))
               have HM7 := hid (o7.blk HM5.out (fun e => by omega))
               have HN7 := hid (HN5.out.ox o7 hXl)
               have HO7 := hid (OX.trans HO5.out o7)
               clear o6 t6 b7 o7 HC6 HR5 HM5 HN5 HO5
               go_wp2_with fail
               refine (HBL.out _ _ t7).mono ?_
               rintro e w8 ⟨rfl, t8, o8⟩
               have hE8 := o8.blk hE7 (fun e => by omega)
               have hM8 := o8.blk HM7.out (fun e => by omega)
               have HR8 := hid (o8.blk HR7.out (fun e => by omega))
               have HN8 := hid (HN7.out.ox o8 hXl)
               have HO8 := hid (OX.trans HO7.out o8)
               have HT8 := hid t8
               have e0 := hE8.cell 0
               have e1 := hE8.cell 1
               have e2 := hE8.cell 2
               have e3 := hE8.cell 3
               have m0 := hM8.cell 0
               have m1 := hM8.cell 1
               have m2 := hM8.cell 2
               have m3 := hM8.cell 3
               clear t7 hE7 HR7 HM7 HN7 HO7 t8 o8 hE8 hM8
               by_cases hnm : (p9, n99) = (pn, nn)
               ·have HKE3 : Hid (o = match wordL [62] (blanksL r3) with
                 | none => .error 70
                 | some s4 => .ok ((XV.mk q9 nn al [] []).withKids (allX ks t), s4)) := hid (by rw [HKE2.out, if_pos hnm])
                injection hnm with hnp hnn
                have hbe : hb9 = hbN := by rw [← HHB9.out, ← HHBN.out, hnp]
                have hneq : ∀ W, (binOp .neq TMk (.agg #[sV p9, sV n99, .string ⟨#[]⟩, .bool hb9]) (.agg #[sV pn, sV nn, .string ⟨#[]⟩, .bool hbN])).run Tryz.prog W = .ok (.bool false) W := fun W => neq_mark9 (by rw [hnp, hnn, hbe]; simp) W
                clear hnp hnn hbe HKE2
                cases hw2 : wordL [62] (blanksL r3) with
                | none =>
                 have HF : Hid (o = .error 70) := hid (by rw [HKE3.out, hw2])
                 have HCg := hid (HW2.out _ _ _ HT8.out hw2)
                 clear hw2
                 go_wp2_with fail
                 refine HCg.out.mono ?_
                 rintro e w9 ⟨rfl, t9, o9⟩
                 have hRx := o9.blk HR8.out (fun e => by omega)
                 have HOx := hid (OX.trans HO8.out o9)
                 clear t9 o9 e0 e1 e2 e3 m0 m1 m2 m3
                 go_wp2_with (guard_target =~ Go.wpList _ _ _ ({ dst := none, op := Go.Op.store TNo _ _, type := _, pos := _, after := _, guard := none } :: _) _ _; refine stN5 rfl rfl (all5 rfl rfl rfl rfl rfl) hRx ?_)
                 intro wz hz oz
                 have d0 := hz.cell 0
                 have d1 := hz.cell 1
                 have d2 := hz.cell 2
                 have d3 := hz.cell 3
                 have d4 := hz.cell 4
                 have HOz := hid (OX.new HOx.out oz hRw)
                 clear hz oz
                 go_wp2
                 refine bodyPost_ret (v := .tuple #[zNV, .int .i64 70]) ?_ rfl ?_
                 ·simp [results, Tryz.results34, go_sem, d0, d1, d2, d3, d4]
                 exact ElO.bad HF.out (by decide) HOz.out
                | some s4 =>
                 have HF : Hid (o = .ok (XV.mk q9 nn al (allX ks t) [], s4)) := hid (by rw [HKE3.out, hw2]; rfl)
                 have HCg := hid (HW2.out _ _ _ HT8.out hw2)
                 clear hw2
                 go_wp2_with fail
                 refine HCg.out.mono ?_
                 rintro e w9 ⟨rfl, t9, o9⟩
                 have t9' : TL X s s4 w9 := t9
                 have HR9 := hid (o9.blk HR8.out (fun e => by omega))
                 have HO9 := hid (OX.trans HO8.out o9)
                 have HN9b := hid (HN8.out.ox o9 hXl)
                 have HT9 := hid t9'
                 clear t9 t9' o9 e0 e1 e2 e3 m0 m1 m2 m3
                 obtain ⟨Aa', ca', kA, kc, e1, e2, hxr⟩ := HN9b.out.xr
                 rw [HNAl.out] at e1 hxr
                 injection e1 with e3 e4 e5
                 clear e4
                 subst e3; subst e5; subst e2
                 obtain ⟨nK, hnK⟩ : ∃ n, (allX ks t).length = n := ⟨_, rfl⟩
                 have HNb := hid HN9b.out.blk
                 rw [hnK] at hxr HNb
                 have HXR := hid hxr
                 have hres := HR9.out
                 clear hxr hnK
                 have n0 := HNb.out.cell 0
                 have n1 := HNb.out.cell 1
                 have n2 := HNb.out.cell 2
                 have n3 := HNb.out.cell 3
                 have n4 := HNb.out.cell 4
                 go_wp2_with (guard_target =~ Go.wpList _ _ _ ({ dst := none, op := Go.Op.store TNo _ _, type := _, pos := _, after := _, guard := none } :: _) _ _; refine stN5 rfl rfl (all5 rfl rfl rfl rfl rfl) hres ?_)
                 intro wz hz oz
                 have d0 := hz.cell 0
                 have d1 := hz.cell 1
                 have d2 := hz.cell 2
                 have d3 := hz.cell 3
                 have d4 := hz.cell 4
                 have HOz := hid (OX.new HO9.out oz hRw)
                 have HTz := hid (HT9.out.off oz (fun e => by omega))
                 have HXz := hid (XR.mono (T' := fun b => w.heap.size ≤ b ∧ b < wz.heap.size) (fun b hb => ⟨hb.1, Nat.lt_of_lt_of_le hb.2.1 oz.size⟩) _ _ (XR.off oz (fun b hb e => hb.2.2 e) _ _ HXR.out))
                 clear hz oz
                 go_wp2
                 refine bodyPost_ret (v := .tuple #[.agg #[sV q9, sV nn, .slice Aa nAl ca, .slice kA nK kc, .string ⟨#[]⟩], .int .i64 0]) ?_ rfl ?_
                 ·simp [results, Tryz.results34, go_sem, d0, d1, d2, d3, d4]
                 rw [HF.out]
                 exact ⟨HOz.out, _, rfl, HXz.out, HTz.out, HVN.out.ne⟩
               ·have HF : Hid (o = .error 70) := hid (by rw [HKE2.out, if_neg hnm])
                have hneq : ∀ W, (binOp .neq TMk (.agg #[sV p9, sV n99, .string ⟨#[]⟩, .bool hb9]) (.agg #[sV pn, sV nn, .string ⟨#[]⟩, .bool hbN])).run Tryz.prog W = .ok (.bool true) W := fun W => neq_mark9 (by
                 by_cases h1 : p9 = pn
                 ·have h2 : ¬ n99 = nn := fun h2 => hnm (by rw [h1, h2])
                  simp [h2]
                 ·simp [h1]) W
                have hRx := HR8.out
                have HOx := hid HO8.out
                clear hnm
                go_wp2_with (guard_target =~ Go.wpList _ _ _ ({ dst := none, op := Go.Op.store TNo _ _, type := _, pos := _, after := _, guard := none } :: _) _ _; refine stN5 rfl rfl (all5 rfl rfl rfl rfl rfl) hRx ?_)
                intro wz hz oz
                have d0 := hz.cell 0
                have d1 := hz.cell 1
                have d2 := hz.cell 2
                have d3 := hz.cell 3
                have d4 := hz.cell 4
                have HOz := hid (OX.new HOx.out oz hRw)
                clear hz oz
                go_wp2
                refine bodyPost_ret (v := .tuple #[zNV, .int .i64 70]) ?_ rfl ?_
                ·simp [results, Tryz.results34, go_sem, d0, d1, d2, d3, d4]
                exact ElO.bad HF.out (by decide) HOz.out
theorem elC_all : ∀ n d : Nat, 24 - d = n → d ≤ 24 → ElC d
 | 0, d, h, hd => telem8 hd (fun h' => by omega)
 | n + 1, d, h, hd => telem8 hd (fun h' => elC_all n (d + 1) (by omega) (by omega))
theorem rparse_doc {b : Bt} {A : Option Addr} {n c : Nat} {w : World} (hn : b.length = n) (hb : RB w A b) : Calls Tryz.prog 11 #[.slice A n c] w (PaO (parseX b) w) := rparse8 (elC_all 24 0 rfl (by decide)) hn hb
end Go.Proofs.YtklcjimmbkpbdaaGreatDoor
