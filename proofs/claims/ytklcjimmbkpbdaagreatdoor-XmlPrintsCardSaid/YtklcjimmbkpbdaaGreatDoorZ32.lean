/-
  Of the proofs of layer 8 (elements of XML): the parts YP YLP. No conditions.
-/
import Derived.Test.YtklcjimmbkpbdaaGreatDoorZ30
import Derived.Test.YtklcjimmbkpbdaaGreatDoorZ31
import Derived.Deep.DeepCutAuto
import Derived.Deep.QuietTactic
import Derived.BigQuiet
import Derived.Test.YtklcjimmbkpbdaaGreatDoorZ23
import Derived.Test.YtklcjimmbkpbdaaGreatDoorZ25
import Derived.Test.YtklcjimmbkpbdaaGreatDoorZ28
import Derived.Test.YtklcjimmbkpbdaaGreatDoorZ26
namespace Go.Proofs.YtklcjimmbkpbdaaGreatDoor
open Go.RowKit
open Go.Lib

def valV (s : Bt) : Bt := 34 :: (attrV (htmlB s) ++ [34])
theorem attrP_val (nm v : Bt) : attrP nm v = (([32] ++ nm) ++ [61]) ++ valV v := by simp [attrP, valV]
theorem valV_len (s : Bt) : (valV s).length ≤ 120 * s.length + 2 := by
  have h1 := attrV_len (htmlB s)
  have h2 := htmlB_len s
  unfold valV
  simp only [List.length_cons, List.length_append, List.length_nil]
  omega
theorem print_none {sp nm ar tx A0 A1 : Bt} {al : List XA} {ks : List XV} (hn : nm ≠ []) (h0 : A0 = [60] ++ nm) (h1 : sp = ar ∧ A1 = A0 ∨ sp ≠ ar ∧ A1 = A0 ++ attrP xmlnsW sp) (hk : ks.length = 0) : printX (.mk sp nm al ks tx) ar = (A1 ++ attrsP al) ++ [47, 62] := by
  have h : printX (.mk sp nm al ks tx) ar = (([60] ++ nm) ++ (if sp = ar then [] else attrP xmlnsW sp)) ++ attrsP al ++ (if ks.length = 0 then [47, 62] else [62] ++ printsX ks sp ++ [60, 47] ++ nm ++ [62]) := @printX_elem (.mk sp nm al ks tx) ar hn
  rw [h, if_pos hk, h0.symm]
  rcases h1 with ⟨h1, rfl⟩ | ⟨h1, rfl⟩
  · rw [if_pos h1, List.append_nil]
  · rw [if_neg h1]
theorem print_some {sp nm ar tx A0 A1 : Bt} {al : List XA} {ks : List XV} (hn : nm ≠ []) (h0 : A0 = [60] ++ nm) (h1 : sp = ar ∧ A1 = A0 ∨ sp ≠ ar ∧ A1 = A0 ++ attrP xmlnsW sp) (hk : ¬ ks.length = 0) : printX (.mk sp nm al ks tx) ar = (((((A1 ++ attrsP al) ++ [62]) ++ printsX ks sp) ++ [60, 47]) ++ nm) ++ [62] := by
  have h : printX (.mk sp nm al ks tx) ar = (([60] ++ nm) ++ (if sp = ar then [] else attrP xmlnsW sp)) ++ attrsP al ++ (if ks.length = 0 then [47, 62] else [62] ++ printsX ks sp ++ [60, 47] ++ nm ++ [62]) := @printX_elem (.mk sp nm al ks tx) ar hn
  rw [h, if_neg hk, h0.symm]
  rcases h1 with ⟨h1, rfl⟩ | ⟨h1, rfl⟩
  · rw [if_pos h1, List.append_nil]; simp only [List.append_assoc]
  · rw [if_neg h1]; simp only [List.append_assoc]
theorem wA_take9 : ∀ (l : List XA) (k : Nat), wA (l.take k) ≤ wA l
  | [], k => by rw [List.take_nil]; exact Nat.le_refl _
  | _ :: _, 0 => Nat.zero_le _
  | a :: l, k + 1 => by
    have h := wA_take9 l k
    unfold wA at h ⊢
    rw [List.take_succ_cons, List.map_cons, List.map_cons, List.sum_cons, List.sum_cons]
    omega
theorem ret_bs {a b : Bt} (h : a = b) : Ending.returned (.string (bs a)) = .returned (.string (bs b)) := by rw [h]
def RPrC (N : Nat) : Prop := ∀ (T : Nat → Prop) (v : XV) (x : Value) (w : World) (ar : Bt), wX v ≤ N → XR w T v x → Calls Tryz.prog 17 #[x, .string (bs ar)] w (fun e w' => e = .returned (.string (bs (printX v ar))) ∧ Below w.heap.size w w')
set_option maxRecDepth 100000 in
set_option maxHeartbeats 1000000 in
theorem rpr_step {N : Nat} (hN9 : N ≤ 7999) (IH : RPrC N) : RPrC (N + 1) := fun T v x w ar hN hx => by
  have hpt0 := @printX_text v ar
  have hpe0 := @printX_elem v ar
  have hwe := wX_eq v
  have hpl := printX_len v ar
  obtain ⟨sp, nm, al, ks, tx⟩ := v
  obtain ⟨aA, ac, kA, kc, rfl, hR, hK⟩ := XR.attrs hx
  simp only [XV.attrs, XV.kids, XV.name, XV.space, XV.text] at hpt0 hpe0 hwe
  have hlk := wXs_len ks
  have hla := wA_len al
  obtain ⟨nA, hnA⟩ : ∃ n, al.length = n := ⟨_, rfl⟩
  obtain ⟨nK, hnK⟩ : ∃ n, ks.length = n := ⟨_, rfl⟩
  rw [hnA, hnK]
  obtain ⟨P, hP⟩ : ∃ P, w.heap.size = P := ⟨_, rfl⟩
  have hb1 := below_alloc8 w (.cells #[sV sp, sV nm, .slice aA nA ac, .slice kA nK kc, sV tx] TNo (0, 0))
  have hPb := Blk.new (.cells #[sV sp, sV nm, .slice aA nA ac, .slice kA nK kc, sV tx] TNo (0, 0)) w
  rw [hP] at hPb
  have HB0 := Lib.hid (And.intro hPb hb1)
  have HBB : Hid (∀ W W', (Blk P (.cells #[sV sp, sV nm, .slice aA nA ac, .slice kA nK kc, sV tx] TNo (0, 0)) W ∧ Below w.heap.size w W) → Below W.heap.size W W' → (Blk P (.cells #[sV sp, sV nm, .slice aA nA ac, .slice kA nK kc, sV tx] TNo (0, 0)) W' ∧ Below w.heap.size w W')) := Lib.hid (fun W W' h b => ⟨(Off.of_below b).blk h.1 (fun h => h), h.2.trans (b.mono h.2.size)⟩)
  by_cases hn : nm = []
  · have hs1 : (bs nm).toList = [] := by rw [bs_toList]; exact hn
    rw [hpt0 hn]
    have HH := Lib.hid (fun W => rhtml_any (bs tx) W (by rw [bs_size]; omega))
    rw [bs_list] at HH
    clear hx hR hK hwe hlk hla hn hnA hnK IH hpt0 hpe0 hPb hb1 HBB hpl hN
    go_enter Tryz.func17, Tryz.ntmps17
    go_wp2_with fail
    refine (HH.out _).mono ?_
    rintro e w1 ⟨rfl, b1⟩
    have HB1 := Lib.hid (HB0.out.2.trans (b1.mono HB0.out.2.size))
    clear b1
    go_wp2
    go_ret
    exact ⟨rfl, HB1.out⟩
  · have hs1 : ¬ (bs nm).toList = [] := by rw [bs_toList]; exact hn
    have hs2 : (bs nm).toList.isEmpty = false := by rw [bs_toList]; cases hq : nm with | nil => exact absurd hq hn | cons => rfl
    obtain ⟨A0, hA0⟩ : ∃ A0, [60] ++ nm = A0 := ⟨_, rfl⟩
    have ha0 : ∀ W, (Op.stringOp .add ⟨#[60]⟩ (bs nm)).run Tryz.prog W = .ok (.string (bs A0)) W := fun W => add9 [60] nm (by simp only [List.length_cons, List.length_nil]; omega) A0 hA0 W
    have hl0 : A0.length ≤ 8001 := by rw [← hA0]; simp only [List.length_append, List.length_cons, List.length_nil]; omega
    have HR := Lib.hid hR
    have HK := Lib.hid hK
    have HIH := Lib.hid IH
    have HNA := Lib.hid hnA
    have HNK := Lib.hid hnK
    have HPE0 := Lib.hid (fun A1 h1 => @print_none sp nm ar tx A0 A1 al ks hn hA0.symm h1)
    have HPE1 := Lib.hid (fun A1 h1 => @print_some sp nm ar tx A0 A1 al ks hn hA0.symm h1)
    rw [hnK] at HPE0 HPE1
    obtain ⟨R, hR9⟩ : ∃ R, printX (.mk sp nm al ks tx) ar = R := ⟨_, rfl⟩
    rw [hR9] at HPE0 HPE1 ⊢
    have hnA9 : nA ≤ 8000 := by omega
    have hnK9 : nK ≤ 8000 := by omega
    have HWK : Hid (wXs ks ≤ N) := Lib.hid (by omega)
    have HWA : Hid (wA al ≤ 8000) := Lib.hid (by omega)
    have HVS := Lib.hid (fun (s : Bt) (h : s.length ≤ 8000) (W : World) => rvals_any s W h)
    have HSP : Hid (sp.length ≤ 8000) := Lib.hid (by omega)
    have HL0 := Lib.hid hl0
    have HNM : Hid (nm.length ≤ 8001) := Lib.hid (by omega)
    by_cases hsp : sp = ar
    · subst hsp
      have HP0 := Lib.hid (HPE0.out A0 (.inl ⟨rfl, rfl⟩))
      have HP1 := Lib.hid (HPE1.out A0 (.inl ⟨rfl, rfl⟩))
      clear hx hR hK hwe hlk hla hn hnA hnK IH hpt0 hpe0 hPb hb1 hpl hN hA0 hR9 HPE0 HPE1
      go_enter Tryz.func17, Tryz.ntmps17
      have q0 := HB0.out.1.cell 0
      have q1 := HB0.out.1.cell 1
      have q2 := HB0.out.1.cell 2
      go_wp2
      clear q0 q1 q2
      go_loopw [5, 32] (fun s5 i wr => ∃ (k : Nat) (acc : Bt), k ≤ nA ∧ i = .int .i64 k ∧ s5 = .string (bs acc) ∧ Hid (acc = A0 ++ attrsP (al.take k)) ∧ Hid (Blk P (.cells #[sV sp, sV nm, .slice aA nA ac, .slice kA nK kc, sV tx] TNo (0, 0)) wr ∧ Below w.heap.size w wr)) (fun _ i _ => nA - (RowKit.intOf i).toNat)
      case atStart => exact ⟨0, A0, Nat.zero_le _, rfl, rfl, Lib.hid (by rw [List.take_zero, show attrsP [] = [] from rfl, List.append_nil]), HB0⟩
      case round =>
        clear HB0
        obtain ⟨k, acc, hk, rfl, rfl, HA, HB⟩ := hrel
        by_cases hlt : k < nA
        · have hkl : k < al.length := by rw [HNA.out]; exact hlt
          obtain ⟨bb, off, hAe, hT, hbl, hcl⟩ := HR.out (by rw [cA_len]; omega)
          obtain ⟨c0, c1, c2⟩ := RC.a3 hcl k hkl
          have htk := attrsP_take hkl
          have hlen := attrsP_len (al.take (k + 1))
          have hwt : wA (al.take (k + 1)) ≤ wA al := wA_take9 al (k + 1)
          have hwm := wA_mem (List.getElem_mem hkl)
          obtain ⟨a, ha⟩ : ∃ a, al[k] = a := ⟨_, rfl⟩
          rw [ha] at c0 c1 c2 htk hwm
          obtain ⟨⟨asp, anm, avl⟩, rfl⟩ : ∃ x : XA, a = x := ⟨_, rfl⟩
          simp only at c0 c1 c2 htk hwm
          rw [attrP_val] at htk
          have hwa := HWA.out
          have hb := HB.out.2
          have y0 := (hb.cell (p := ⟨bb, off + k * 3, none⟩) hbl).trans c0
          have y1 := (hb.cell (p := ⟨bb, off + k * 3 + 1, none⟩) hbl).trans c1
          have y2 := (hb.cell (p := ⟨bb, off + k * 3 + 2, none⟩) hbl).trans c2
          have hB1 := below_alloc8 wr (.cells #[sV asp, sV anm, sV avl] TA3 (0, 0))
          have hMB := Blk.new (.cells #[sV asp, sV anm, sV avl] TA3 (0, 0)) wr
          obtain ⟨M, hM⟩ : ∃ M, wr.heap.size = M := ⟨_, rfl⟩
          obtain ⟨w7, hw7⟩ : ∃ W, wr.alloc (.cells #[sV asp, sV anm, sV avl] TA3) = W := ⟨_, rfl⟩
          have HI7 := HBB.out _ _ HB.out hB1
          rw [hw7] at HI7 hMB
          rw [hM] at hMB
          have HBB7 : Hid (∀ W W', (Blk M (.cells #[sV asp, sV anm, sV avl] TA3 (0, 0)) W ∧ Blk P (.cells #[sV sp, sV nm, .slice aA nA ac, .slice kA nK kc, sV tx] TNo (0, 0)) W ∧ Below w.heap.size w W) → Below W.heap.size W W' → (Blk M (.cells #[sV asp, sV anm, sV avl] TA3 (0, 0)) W' ∧ Blk P (.cells #[sV sp, sV nm, .slice aA nA ac, .slice kA nK kc, sV tx] TNo (0, 0)) W' ∧ Below w.heap.size w W')) := Lib.hid (fun W W' h b => ⟨(Off.of_below b).blk h.1 (fun h => h), HBB.out _ _ h.2 b⟩)
          have HSS : Hid (∀ W, (Blk M (.cells #[sV asp, sV anm, sV avl] TA3 (0, 0)) W ∧ Blk P (.cells #[sV sp, sV nm, .slice aA nA ac, .slice kA nK kc, sV tx] TNo (0, 0)) W ∧ Below w.heap.size w W) → (fun W => W.cell? ⟨M, 0, none⟩ = some (sV asp) ∧ W.cell? ⟨M, 1, none⟩ = some (sV anm) ∧ W.cell? ⟨M, 2, none⟩ = some (sV avl)) W) := Lib.hid (fun W hW => ⟨hW.1.cell 0, hW.1.cell 1, hW.1.cell 2⟩)
          have HI := Lib.hid (And.intro hMB HI7)
          have hl9 := HL0.out
          obtain ⟨Y1, hY1⟩ : ∃ y, [32] ++ anm = y := ⟨_, rfl⟩
          obtain ⟨Y2, hY2⟩ : ∃ y, Y1 ++ [61] = y := ⟨_, rfl⟩
          obtain ⟨V, hV⟩ : ∃ y, valV avl = y := ⟨_, rfl⟩
          obtain ⟨Y3, hY3⟩ : ∃ y, Y2 ++ V = y := ⟨_, rfl⟩
          obtain ⟨acc2, hacc2⟩ : ∃ y, acc ++ Y3 = y := ⟨_, rfl⟩
          rw [hY1, hY2, hV, hY3] at htk
          have HV2 : Hid (acc2 = A0 ++ attrsP (al.take (k + 1))) := Lib.hid (by rw [htk, ← hacc2, HA.out, List.append_assoc])
          have hacl : acc2.length ≤ 3000000 := by rw [HV2.out, List.length_append]; omega
          have hvl := valV_len avl
          rw [hV] at hvl
          have hz1 : Y1.length ≤ 9000 := by rw [← hY1]; simp only [List.length_append, List.length_cons, List.length_nil]; omega
          have hz2 : Y2.length ≤ 9001 := by rw [← hY2]; simp only [List.length_append, List.length_cons, List.length_nil]; omega
          have hz3 : acc.length + Y3.length ≤ 3000000 := by rw [← hacc2, List.length_append] at hacl; exact hacl
          have ha1 : ∀ W, (Op.stringOp .add ⟨#[32]⟩ (bs anm)).run Tryz.prog W = .ok (.string (bs Y1)) W := fun W => add9 [32] anm (by simp only [List.length_cons, List.length_nil]; omega) Y1 hY1 W
          have ha2 : ∀ W, (Op.stringOp .add (bs Y1) ⟨#[61]⟩).run Tryz.prog W = .ok (.string (bs Y2)) W := fun W => add9 Y1 [61] (by simp only [List.length_cons, List.length_nil]; omega) Y2 hY2 W
          have ha3 : ∀ W, (Op.stringOp .add (bs Y2) (bs V)).run Tryz.prog W = .ok (.string (bs Y3)) W := fun W => add9 Y2 V (by omega) Y3 hY3 W
          have ha4 : ∀ W, (Op.stringOp .add (bs acc) (bs Y3)).run Tryz.prog W = .ok (.string (bs acc2)) W := fun W => add9 acc Y3 (by omega) acc2 hacc2 W
          have HVL := Lib.hid (fun W => HVS.out avl (by omega) W)
          rw [show (34 :: (attrV (htmlB avl) ++ [34])) = V from hV] at HVL
          subst hAe
          have hk1 : (0 : Int) ≤ (k : Int) ∧ (k : Int) < (nA : Int) := by omega
          clear hb HA HB c0 c1 c2 hcl ha htk hlen hwt hwm hwa hB1 hMB HI7 hl9 hY1 hY2 hV hY3 hacc2 hacl hvl hz1 hz2 hz3
          go_wp2
          try rw [hM]
          try rw [hw7]
          have I0 := HBB7.out _ w7.drew HI.out (below_drewN (Below.refl _ _) 1)
          refine wp_region_held_drew (S := fun W => W.cell? ⟨M, 0, none⟩ = some (sV asp) ∧ W.cell? ⟨M, 1, none⟩ = some (sV anm) ∧ W.cell? ⟨M, 2, none⟩ = some (sV avl)) (by kernel_rfl) (HSS.out _ I0) (fun _ => ?_)
          generalize w7.drew = w0 at *
          refine wpAnyH_take (i := 0) (v := .string (bs acc)) rfl (by kernel_rfl) (by kernel_rfl) (by kernel_rfl) (fun _ _ _ h => h) (Or.inl ⟨by rfl, by intro w hSw; clear hSw; go_simp⟩) (HSS.out _ I0) ?_
          change wpAnyH _ _ _ _ _ _ _ (Act.put _ (some 36) _) _
          try simp only [Act.put, List.setIfInBounds_toArray, List.set_cons_zero, List.set_cons_succ]
          refine wpAnyH_take (i := 1) (v := .pointer (some ⟨M, 1, none⟩)) rfl (by kernel_rfl) (by kernel_rfl) (by kernel_rfl) (fun _ _ _ h => h) (Or.inl ⟨by rfl, by intro w hSw; clear hSw; go_simp⟩) (HSS.out _ I0) ?_
          change wpAnyH _ _ _ _ _ _ _ (Act.put _ (some 37) _) _
          try simp only [Act.put, List.setIfInBounds_toArray, List.set_cons_zero, List.set_cons_succ]
          refine wpAnyH_take (i := 2) (v := sV anm) rfl (by kernel_rfl) (by kernel_rfl) (by kernel_rfl) (fun _ _ _ h => h) (Or.inl ⟨by rfl, by intro w hSw; (try dsimp only at hSw); go_simp⟩) (HSS.out _ I0) ?_
          change wpAnyH _ _ _ _ _ _ _ (Act.put _ (some 38) _) _
          try simp only [Act.put, List.setIfInBounds_toArray, List.set_cons_zero, List.set_cons_succ]
          refine wpAnyH_take (i := 3) (v := .string (bs Y1)) rfl (by kernel_rfl) (by kernel_rfl) (by kernel_rfl) (fun _ _ _ h => h) (Or.inl ⟨by rfl, by intro w hSw; clear hSw; go_simp⟩) (HSS.out _ I0) ?_
          change wpAnyH _ _ _ _ _ _ _ (Act.put _ (some 39) _) _
          try simp only [Act.put, List.setIfInBounds_toArray, List.set_cons_zero, List.set_cons_succ]
          refine wpAnyH_take (i := 4) (v := .string (bs Y2)) rfl (by kernel_rfl) (by kernel_rfl) (by kernel_rfl) (fun _ _ _ h => h) (Or.inl ⟨by rfl, by intro w hSw; clear hSw; go_simp⟩) (HSS.out _ I0) ?_
          change wpAnyH _ _ _ _ _ _ _ (Act.put _ (some 40) _) _
          try simp only [Act.put, List.setIfInBounds_toArray, List.set_cons_zero, List.set_cons_succ]
          refine wpAnyH_take (i := 5) (v := .pointer (some ⟨M, 2, none⟩)) rfl (by kernel_rfl) (by kernel_rfl) (by kernel_rfl) (fun _ _ _ h => h) (Or.inl ⟨by rfl, by intro w hSw; clear hSw; go_simp⟩) (HSS.out _ I0) ?_
          change wpAnyH _ _ _ _ _ _ _ (Act.put _ (some 41) _) _
          try simp only [Act.put, List.setIfInBounds_toArray, List.set_cons_zero, List.set_cons_succ]
          refine wpAnyH_take (i := 6) (v := sV avl) rfl (by kernel_rfl) (by kernel_rfl) (by kernel_rfl) (fun _ _ _ h => h) (Or.inl ⟨by rfl, by intro w hSw; (try dsimp only at hSw); go_simp⟩) (HSS.out _ I0) ?_
          change wpAnyH _ _ _ _ _ _ _ (Act.put _ (some 42) _) _
          try simp only [Act.put, List.setIfInBounds_toArray, List.set_cons_zero, List.set_cons_succ]
          refine wpAnyH_ready (rs := [7]) (by kernel_rfl) (by simp) ?_
          refine AllReadyH.cons (o := { dst := some 43, op := .call { callee := .value (.func 42), args := #[.tmp 42], argTypes := _ }, type := _, pos := _, after := _, guard := none }) rfl (fun K0 hK => ?_) AllReadyH.nil
          go_simp
          (with_reducible refine (HVL.out _).mono ?_)
          rintro e w2 ⟨rfl, b2⟩
          have I2 := HBB7.out _ _ I0 b2
          clear b2
          refine hK.out _ _ (HSS.out _ I2) (fun _ => ?_)
          clear hK
          try simp only [Act.put, List.setIfInBounds_toArray, List.set_cons_zero, List.set_cons_succ]
          refine wpAnyH_take (i := 8) (v := .string (bs Y3)) rfl (by kernel_rfl) (by kernel_rfl) (by kernel_rfl) (fun _ _ _ h => h) (Or.inl ⟨by rfl, by intro w hSw; clear hSw; go_simp⟩) (HSS.out _ I2) ?_
          change wpAnyH _ _ _ _ _ _ _ (Act.put _ (some 44) _) _
          try simp only [Act.put, List.setIfInBounds_toArray, List.set_cons_zero, List.set_cons_succ]
          refine wpAnyH_take (i := 9) (v := .string (bs acc2)) rfl (by kernel_rfl) (by kernel_rfl) (by kernel_rfl) (fun _ _ _ h => h) (Or.inl ⟨by rfl, by intro w hSw; clear hSw; go_simp⟩) (HSS.out _ I2) ?_
          change wpAnyH _ _ _ _ _ _ _ (Act.put _ (some 45) _) _
          try simp only [Act.put, List.setIfInBounds_toArray, List.set_cons_zero, List.set_cons_succ]
          refine wpAnyH_take (i := 10) (v := .string (bs acc2)) rfl (by kernel_rfl) (by kernel_rfl) (by kernel_rfl) (fun _ _ _ h => h) (Or.inl ⟨by rfl, by intro w hSw; clear hSw; go_simp⟩) (HSS.out _ I2) ?_
          change wpAnyH _ _ _ _ _ _ _ (Act.put _ (some 5) _) _
          try simp only [Act.put, List.setIfInBounds_toArray, List.set_cons_zero, List.set_cons_succ]
          refine wpAnyH_done (by kernel_rfl) ?_ _
          have HI2 := Lib.hid I2.2
          clear I0 I2 HSS HBB7 HI ha1 ha2 ha3 ha4
          go_wp2
          go_roundw
          case rel => exact ⟨k + 1, acc2, by omega, by go_num, rfl, HV2, HI2⟩
          case measure => simp [RowKit.intOf]; omega
        · obtain rfl : nA = k := by omega
          have htk : al.take nA = al := List.take_of_length_le (by rw [HNA.out]; exact Nat.le_refl _)
          rw [htk] at HA
          have hal := attrsP_len al
          have hwa := HWA.out
          have hl9 := HL0.out
          have hacl : acc.length ≤ 3000000 := by rw [HA.out, List.length_append]; omega
          have q0 := HB.out.1.cell 0
          have q1 := HB.out.1.cell 1
          have q3 := HB.out.1.cell 3
          clear htk hal hwa hl9
          by_cases hk0 : nK = 0
          · subst hk0
            obtain ⟨acc2, hacc2⟩ : ∃ y, acc ++ [47, 62] = y := ⟨_, rfl⟩
            have ha1 : ∀ W, (Op.stringOp .add (bs acc) ⟨#[47, 62]⟩).run Tryz.prog W = .ok (.string (bs acc2)) W := fun W => add9 acc [47, 62] (by simp only [List.length_cons, List.length_nil]; omega) acc2 hacc2 W
            have HE : Hid (acc2 = R) := Lib.hid (by rw [HP0.out rfl, ← HA.out, hacc2])
            clear hacc2 hacl
            go_wp2
            go_ret
            first | exact ⟨ret_bs HE.out, HB.out.2⟩ | exact ⟨ret_bs HE.out, by rw [← hP]; exact HB.out.2⟩
          · have hk1 : ¬ (nK : Int) = 0 := by omega
            have hk2 : ((nK : Int) == 0) = false := by simpa using hk1
            obtain ⟨acc3, hacc3⟩ : ∃ y, acc ++ [62] = y := ⟨_, rfl⟩
            have ha1 : ∀ W, (Op.stringOp .add (bs acc) ⟨#[62]⟩).run Tryz.prog W = .ok (.string (bs acc3)) W := fun W => add9 acc [62] (by simp only [List.length_cons, List.length_nil]; omega) acc3 hacc3 W
            have HP2 := Lib.hid (HP1.out hk0)
            rw [← HA.out, hacc3] at HP2
            have HL3 : Hid (acc3.length ≤ 3000001) := Lib.hid (by rw [← hacc3]; simp only [List.length_append, List.length_cons, List.length_nil]; omega)
            clear hacc3 hacl HA
            go_wp2
            clear q0 q1 q3 ha1
            go_loopw [5, 58] (fun s5 i wr => ∃ (k : Nat) (acc : Bt), k ≤ nK ∧ i = .int .i64 k ∧ s5 = .string (bs acc) ∧ Hid (acc = acc3 ++ printsX (ks.take k) sp) ∧ Hid (Blk P (.cells #[sV sp, sV nm, .slice aA nA ac, .slice kA nK kc, sV tx] TNo (0, 0)) wr ∧ Below w.heap.size w wr)) (fun _ i _ => nK - (RowKit.intOf i).toNat)
            case atStart => exact ⟨0, acc3, Nat.zero_le _, rfl, rfl, Lib.hid (by rw [List.take_zero, show printsX [] sp = [] from rfl, List.append_nil]), HB⟩
            case round =>
              clear HB
              obtain ⟨j, acc, hj, rfl, rfl, HA, HB⟩ := hrel
              by_cases hjt : j < nK
              · have hjl : j < ks.length := by rw [HNK.out]; exact hjt
                obtain ⟨bb, off, hAe, hT, hbl, hll⟩ := HK.out (by omega)
                obtain ⟨kaA, kac, kkA, kkc, c0, c1, c2, c3, c4, hxk⟩ := XRl.cells hll j hjl
                have HTK := Lib.hid (printsX_take sp hjl)
                have hwm := wXs_mem (List.getElem_mem hjl)
                obtain ⟨kid, hkid⟩ : ∃ a, ks[j] = a := ⟨_, rfl⟩
                rw [hkid] at c0 c1 c2 c3 c4 hxk HTK hwm
                have hb := HB.out.2
                have y0 := (hb.cell (p := ⟨bb, off + j * 5, none⟩) hbl).trans c0
                have y1 := (hb.cell (p := ⟨bb, off + j * 5 + 1, none⟩) hbl).trans c1
                have y2 := (hb.cell (p := ⟨bb, off + j * 5 + 2, none⟩) hbl).trans c2
                have y3 := (hb.cell (p := ⟨bb, off + j * 5 + 3, none⟩) hbl).trans c3
                have y4 := (hb.cell (p := ⟨bb, off + j * 5 + 4, none⟩) hbl).trans c4
                have hB1 := below_alloc8 wr (.cells #[sV kid.space, sV kid.name, .slice kaA kid.attrs.length kac, .slice kkA kid.kids.length kkc, sV kid.text] TNo (0, 0))
                have hB2 := hb.trans (hB1.mono hb.size)
                have HI2 := Lib.hid (HBB.out _ _ HB.out hB1)
                have HC := Lib.hid (HIH.out T kid _ _ sp (Nat.le_trans hwm HWK.out) (hxk.below hB2))
                have hlen : acc.length + (printX kid sp).length ≤ 7000000 := by
                  have h1 := printsX_le (l := ks) sp j
                  have h2 := printsX_len ks sp
                  have h3 := printX_len kid sp
                  have h4 := HWK.out
                  have h5 := HL3.out
                  rw [HA.out, List.length_append]
                  omega
                obtain ⟨kin, hkin⟩ : ∃ y, printX kid sp = y := ⟨_, rfl⟩
                obtain ⟨acc2, hacc2⟩ : ∃ y, acc ++ kin = y := ⟨_, rfl⟩
                rw [hkin] at HC hlen HTK
                have hadd := add9 acc kin (by omega) acc2 hacc2
                have HV : Hid (acc2 = acc3 ++ printsX (ks.take (j + 1)) sp) := Lib.hid (by rw [HTK.out, ← hacc2, HA.out, List.append_assoc])
                have q0 := HI2.out.1.cell 0
                subst hAe
                clear c0 c1 c2 c3 c4 hll hkid hb hB1 hB2 hxk hwm hkin hacc2 hlen
                go_wp2_with fail
                refine HC.out.mono ?_
                rintro e w5 ⟨rfl, b5⟩
                have HB5 := Lib.hid (HBB.out _ _ HI2.out b5)
                clear b5
                go_wp2
                go_roundw
                case rel => exact ⟨j + 1, acc2, by omega, by go_num, rfl, HV, HB5⟩
                case measure => simp [RowKit.intOf]; omega
              · obtain rfl : nK = j := by omega
                have htk : ks.take nK = ks := List.take_of_length_le (by rw [HNK.out]; exact Nat.le_refl _)
                rw [htk] at HA
                have hpl := printsX_len ks sp
                have hwk := HWK.out
                have hl3 := HL3.out
                have hl9 := HL0.out
                have hnml : nm.length ≤ 8001 := HNM.out
                have hacl : acc.length ≤ 6000000 := by rw [HA.out, List.length_append]; omega
                rw [← HA.out] at HP2
                obtain ⟨Z1, hZ1⟩ : ∃ y, acc ++ [60, 47] = y := ⟨_, rfl⟩
                obtain ⟨Z2, hZ2⟩ : ∃ y, Z1 ++ nm = y := ⟨_, rfl⟩
                obtain ⟨Z3, hZ3⟩ : ∃ y, Z2 ++ [62] = y := ⟨_, rfl⟩
                have hz1 : Z1.length ≤ 6000002 := by rw [← hZ1]; simp only [List.length_append, List.length_cons, List.length_nil]; omega
                have hz2 : Z2.length ≤ 6010003 := by rw [← hZ2]; simp only [List.length_append]; omega
                have ha1 : ∀ W, (Op.stringOp .add (bs acc) ⟨#[60, 47]⟩).run Tryz.prog W = .ok (.string (bs Z1)) W := fun W => add9 acc [60, 47] (by simp only [List.length_cons, List.length_nil]; omega) Z1 hZ1 W
                have ha2 : ∀ W, (Op.stringOp .add (bs Z1) (bs nm)).run Tryz.prog W = .ok (.string (bs Z2)) W := fun W => add9 Z1 nm (by omega) Z2 hZ2 W
                have ha3 : ∀ W, (Op.stringOp .add (bs Z2) ⟨#[62]⟩).run Tryz.prog W = .ok (.string (bs Z3)) W := fun W => add9 Z2 [62] (by simp only [List.length_cons, List.length_nil]; omega) Z3 hZ3 W
                have HE : Hid (Z3 = R) := Lib.hid (by rw [HP2.out, hZ1, hZ2, hZ3])
                have q1 := HB.out.1.cell 1
                clear hZ1 hZ2 hZ3 hz1 hz2 hpl hwk hl3 hl9 hnml hacl htk
                go_wp2
                go_ret
                first | exact ⟨ret_bs HE.out, HB.out.2⟩ | exact ⟨ret_bs HE.out, by rw [← hP]; exact HB.out.2⟩
    · have hne : ¬ (bs sp).toList = (bs ar).toList := by rw [bs_toList, bs_toList]; exact hsp
      have hne2 : ((bs sp).toList == (bs ar).toList) = false := beq_eq_false_iff_ne.2 hne
      obtain ⟨V, hV⟩ : ∃ y, valV sp = y := ⟨_, rfl⟩
      obtain ⟨X1, hX1⟩ : ∃ y, [32, 120, 109, 108, 110, 115, 61] ++ V = y := ⟨_, rfl⟩
      obtain ⟨A1, hA1⟩ : ∃ y, A0 ++ X1 = y := ⟨_, rfl⟩
      have hap : A1 = A0 ++ attrP xmlnsW sp := by
        rw [attrP_val, hV, ← hA1, ← hX1]
        rfl
      have HP0 := Lib.hid (HPE0.out A1 (.inr ⟨hsp, hap⟩))
      have HP1 := Lib.hid (HPE1.out A1 (.inr ⟨hsp, hap⟩))
      have hvl := valV_len sp
      rw [hV] at hvl
      have hz1 : X1.length ≤ 960100 := by rw [← hX1]; simp only [List.length_append, List.length_cons, List.length_nil]; omega
      have HL0 : Hid (A1.length ≤ 980000) := Lib.hid (by rw [← hA1, List.length_append]; omega)
      have ha5 : ∀ W, (Op.stringOp .add ⟨#[32, 120, 109, 108, 110, 115, 61]⟩ (bs V)).run Tryz.prog W = .ok (.string (bs X1)) W := fun W => add9 [32, 120, 109, 108, 110, 115, 61] V (by simp only [List.length_cons, List.length_nil]; omega) X1 hX1 W
      have ha6 : ∀ W, (Op.stringOp .add (bs A0) (bs X1)).run Tryz.prog W = .ok (.string (bs A1)) W := fun W => add9 A0 X1 (by omega) A1 hA1 W
      have HVL := Lib.hid (fun W => HVS.out sp HSP.out W)
      rw [show (34 :: (attrV (htmlB sp) ++ [34])) = V from hV] at HVL
      clear hx hR hK hwe hlk hla hn hnA hnK IH hpt0 hpe0 hPb hb1 hpl hN hA0 hR9 HPE0 HPE1 hsp hV hX1 hA1 hap hvl hz1
      go_enter Tryz.func17, Tryz.ntmps17
      have q0 := HB0.out.1.cell 0
      have q1 := HB0.out.1.cell 1
      go_wp2_with fail
      refine (HVL.out _).mono ?_
      rintro e w1 ⟨rfl, b1⟩
      have HB1 := Lib.hid (HBB.out _ _ HB0.out b1)
      clear b1 HB0 q0 q1 HVL
      have q0 := HB1.out.1.cell 0
      have q1 := HB1.out.1.cell 1
      have q2 := HB1.out.1.cell 2
      go_wp2
      clear ha5 ha6
      clear q0 q1 q2
      go_loopw [5, 32] (fun s5 i wr => ∃ (k : Nat) (acc : Bt), k ≤ nA ∧ i = .int .i64 k ∧ s5 = .string (bs acc) ∧ Hid (acc = A1 ++ attrsP (al.take k)) ∧ Hid (Blk P (.cells #[sV sp, sV nm, .slice aA nA ac, .slice kA nK kc, sV tx] TNo (0, 0)) wr ∧ Below w.heap.size w wr)) (fun _ i _ => nA - (RowKit.intOf i).toNat)
      case atStart => exact ⟨0, A1, Nat.zero_le _, rfl, rfl, Lib.hid (by rw [List.take_zero, show attrsP [] = [] from rfl, List.append_nil]), HB1⟩
      case round =>
        clear HB1
        obtain ⟨k, acc, hk, rfl, rfl, HA, HB⟩ := hrel
        by_cases hlt : k < nA
        · have hkl : k < al.length := by rw [HNA.out]; exact hlt
          obtain ⟨bb, off, hAe, hT, hbl, hcl⟩ := HR.out (by rw [cA_len]; omega)
          obtain ⟨c0, c1, c2⟩ := RC.a3 hcl k hkl
          have htk := attrsP_take hkl
          have hlen := attrsP_len (al.take (k + 1))
          have hwt : wA (al.take (k + 1)) ≤ wA al := wA_take9 al (k + 1)
          have hwm := wA_mem (List.getElem_mem hkl)
          obtain ⟨a, ha⟩ : ∃ a, al[k] = a := ⟨_, rfl⟩
          rw [ha] at c0 c1 c2 htk hwm
          obtain ⟨⟨asp, anm, avl⟩, rfl⟩ : ∃ x : XA, a = x := ⟨_, rfl⟩
          simp only at c0 c1 c2 htk hwm
          rw [attrP_val] at htk
          have hwa := HWA.out
          have hb := HB.out.2
          have y0 := (hb.cell (p := ⟨bb, off + k * 3, none⟩) hbl).trans c0
          have y1 := (hb.cell (p := ⟨bb, off + k * 3 + 1, none⟩) hbl).trans c1
          have y2 := (hb.cell (p := ⟨bb, off + k * 3 + 2, none⟩) hbl).trans c2
          have hB1 := below_alloc8 wr (.cells #[sV asp, sV anm, sV avl] TA3 (0, 0))
          have hMB := Blk.new (.cells #[sV asp, sV anm, sV avl] TA3 (0, 0)) wr
          obtain ⟨M, hM⟩ : ∃ M, wr.heap.size = M := ⟨_, rfl⟩
          obtain ⟨w7, hw7⟩ : ∃ W, wr.alloc (.cells #[sV asp, sV anm, sV avl] TA3) = W := ⟨_, rfl⟩
          have HI7 := HBB.out _ _ HB.out hB1
          rw [hw7] at HI7 hMB
          rw [hM] at hMB
          have HBB7 : Hid (∀ W W', (Blk M (.cells #[sV asp, sV anm, sV avl] TA3 (0, 0)) W ∧ Blk P (.cells #[sV sp, sV nm, .slice aA nA ac, .slice kA nK kc, sV tx] TNo (0, 0)) W ∧ Below w.heap.size w W) → Below W.heap.size W W' → (Blk M (.cells #[sV asp, sV anm, sV avl] TA3 (0, 0)) W' ∧ Blk P (.cells #[sV sp, sV nm, .slice aA nA ac, .slice kA nK kc, sV tx] TNo (0, 0)) W' ∧ Below w.heap.size w W')) := Lib.hid (fun W W' h b => ⟨(Off.of_below b).blk h.1 (fun h => h), HBB.out _ _ h.2 b⟩)
          have HSS : Hid (∀ W, (Blk M (.cells #[sV asp, sV anm, sV avl] TA3 (0, 0)) W ∧ Blk P (.cells #[sV sp, sV nm, .slice aA nA ac, .slice kA nK kc, sV tx] TNo (0, 0)) W ∧ Below w.heap.size w W) → (fun W => W.cell? ⟨M, 0, none⟩ = some (sV asp) ∧ W.cell? ⟨M, 1, none⟩ = some (sV anm) ∧ W.cell? ⟨M, 2, none⟩ = some (sV avl)) W) := Lib.hid (fun W hW => ⟨hW.1.cell 0, hW.1.cell 1, hW.1.cell 2⟩)
          have HI := Lib.hid (And.intro hMB HI7)
          have hl9 := HL0.out
          obtain ⟨Y1, hY1⟩ : ∃ y, [32] ++ anm = y := ⟨_, rfl⟩
          obtain ⟨Y2, hY2⟩ : ∃ y, Y1 ++ [61] = y := ⟨_, rfl⟩
          obtain ⟨V, hV⟩ : ∃ y, valV avl = y := ⟨_, rfl⟩
          obtain ⟨Y3, hY3⟩ : ∃ y, Y2 ++ V = y := ⟨_, rfl⟩
          obtain ⟨acc2, hacc2⟩ : ∃ y, acc ++ Y3 = y := ⟨_, rfl⟩
          rw [hY1, hY2, hV, hY3] at htk
          have HV2 : Hid (acc2 = A1 ++ attrsP (al.take (k + 1))) := Lib.hid (by rw [htk, ← hacc2, HA.out, List.append_assoc])
          have hacl : acc2.length ≤ 3000000 := by rw [HV2.out, List.length_append]; omega
          have hvl := valV_len avl
          rw [hV] at hvl
          have hz1 : Y1.length ≤ 9000 := by rw [← hY1]; simp only [List.length_append, List.length_cons, List.length_nil]; omega
          have hz2 : Y2.length ≤ 9001 := by rw [← hY2]; simp only [List.length_append, List.length_cons, List.length_nil]; omega
          have hz3 : acc.length + Y3.length ≤ 3000000 := by rw [← hacc2, List.length_append] at hacl; exact hacl
          have ha1 : ∀ W, (Op.stringOp .add ⟨#[32]⟩ (bs anm)).run Tryz.prog W = .ok (.string (bs Y1)) W := fun W => add9 [32] anm (by simp only [List.length_cons, List.length_nil]; omega) Y1 hY1 W
          have ha2 : ∀ W, (Op.stringOp .add (bs Y1) ⟨#[61]⟩).run Tryz.prog W = .ok (.string (bs Y2)) W := fun W => add9 Y1 [61] (by simp only [List.length_cons, List.length_nil]; omega) Y2 hY2 W
          have ha3 : ∀ W, (Op.stringOp .add (bs Y2) (bs V)).run Tryz.prog W = .ok (.string (bs Y3)) W := fun W => add9 Y2 V (by omega) Y3 hY3 W
          have ha4 : ∀ W, (Op.stringOp .add (bs acc) (bs Y3)).run Tryz.prog W = .ok (.string (bs acc2)) W := fun W => add9 acc Y3 (by omega) acc2 hacc2 W
          have HVL := Lib.hid (fun W => HVS.out avl (by omega) W)
          rw [show (34 :: (attrV (htmlB avl) ++ [34])) = V from hV] at HVL
          subst hAe
          have hk1 : (0 : Int) ≤ (k : Int) ∧ (k : Int) < (nA : Int) := by omega
          clear hb HA HB c0 c1 c2 hcl ha htk hlen hwt hwm hwa hB1 hMB HI7 hl9 hY1 hY2 hV hY3 hacc2 hacl hvl hz1 hz2 hz3
          go_wp2
          try rw [hM]
          try rw [hw7]
          have I0 := HBB7.out _ w7.drew HI.out (below_drewN (Below.refl _ _) 1)
          refine wp_region_held_drew (S := fun W => W.cell? ⟨M, 0, none⟩ = some (sV asp) ∧ W.cell? ⟨M, 1, none⟩ = some (sV anm) ∧ W.cell? ⟨M, 2, none⟩ = some (sV avl)) (by kernel_rfl) (HSS.out _ I0) (fun _ => ?_)
          generalize w7.drew = w0 at *
          refine wpAnyH_take (i := 0) (v := .string (bs acc)) rfl (by kernel_rfl) (by kernel_rfl) (by kernel_rfl) (fun _ _ _ h => h) (Or.inl ⟨by rfl, by intro w hSw; clear hSw; go_simp⟩) (HSS.out _ I0) ?_
          change wpAnyH _ _ _ _ _ _ _ (Act.put _ (some 36) _) _
          try simp only [Act.put, List.setIfInBounds_toArray, List.set_cons_zero, List.set_cons_succ]
          refine wpAnyH_take (i := 1) (v := .pointer (some ⟨M, 1, none⟩)) rfl (by kernel_rfl) (by kernel_rfl) (by kernel_rfl) (fun _ _ _ h => h) (Or.inl ⟨by rfl, by intro w hSw; clear hSw; go_simp⟩) (HSS.out _ I0) ?_
          change wpAnyH _ _ _ _ _ _ _ (Act.put _ (some 37) _) _
          try simp only [Act.put, List.setIfInBounds_toArray, List.set_cons_zero, List.set_cons_succ]
          refine wpAnyH_take (i := 2) (v := sV anm) rfl (by kernel_rfl) (by kernel_rfl) (by kernel_rfl) (fun _ _ _ h => h) (Or.inl ⟨by rfl, by intro w hSw; (try dsimp only at hSw); go_simp⟩) (HSS.out _ I0) ?_
          change wpAnyH _ _ _ _ _ _ _ (Act.put _ (some 38) _) _
          try simp only [Act.put, List.setIfInBounds_toArray, List.set_cons_zero, List.set_cons_succ]
          refine wpAnyH_take (i := 3) (v := .string (bs Y1)) rfl (by kernel_rfl) (by kernel_rfl) (by kernel_rfl) (fun _ _ _ h => h) (Or.inl ⟨by rfl, by intro w hSw; clear hSw; go_simp⟩) (HSS.out _ I0) ?_
          change wpAnyH _ _ _ _ _ _ _ (Act.put _ (some 39) _) _
          try simp only [Act.put, List.setIfInBounds_toArray, List.set_cons_zero, List.set_cons_succ]
          refine wpAnyH_take (i := 4) (v := .string (bs Y2)) rfl (by kernel_rfl) (by kernel_rfl) (by kernel_rfl) (fun _ _ _ h => h) (Or.inl ⟨by rfl, by intro w hSw; clear hSw; go_simp⟩) (HSS.out _ I0) ?_
          change wpAnyH _ _ _ _ _ _ _ (Act.put _ (some 40) _) _
          try simp only [Act.put, List.setIfInBounds_toArray, List.set_cons_zero, List.set_cons_succ]
          refine wpAnyH_take (i := 5) (v := .pointer (some ⟨M, 2, none⟩)) rfl (by kernel_rfl) (by kernel_rfl) (by kernel_rfl) (fun _ _ _ h => h) (Or.inl ⟨by rfl, by intro w hSw; clear hSw; go_simp⟩) (HSS.out _ I0) ?_
          change wpAnyH _ _ _ _ _ _ _ (Act.put _ (some 41) _) _
          try simp only [Act.put, List.setIfInBounds_toArray, List.set_cons_zero, List.set_cons_succ]
          refine wpAnyH_take (i := 6) (v := sV avl) rfl (by kernel_rfl) (by kernel_rfl) (by kernel_rfl) (fun _ _ _ h => h) (Or.inl ⟨by rfl, by intro w hSw; (try dsimp only at hSw); go_simp⟩) (HSS.out _ I0) ?_
          change wpAnyH _ _ _ _ _ _ _ (Act.put _ (some 42) _) _
          try simp only [Act.put, List.setIfInBounds_toArray, List.set_cons_zero, List.set_cons_succ]
          refine wpAnyH_ready (rs := [7]) (by kernel_rfl) (by simp) ?_
          refine AllReadyH.cons (o := { dst := some 43, op := .call { callee := .value (.func 42), args := #[.tmp 42], argTypes := _ }, type := _, pos := _, after := _, guard := none }) rfl (fun K0 hK => ?_) AllReadyH.nil
          go_simp
          (with_reducible refine (HVL.out _).mono ?_)
          rintro e w2 ⟨rfl, b2⟩
          have I2 := HBB7.out _ _ I0 b2
          clear b2
          refine hK.out _ _ (HSS.out _ I2) (fun _ => ?_)
          clear hK
          try simp only [Act.put, List.setIfInBounds_toArray, List.set_cons_zero, List.set_cons_succ]
          refine wpAnyH_take (i := 8) (v := .string (bs Y3)) rfl (by kernel_rfl) (by kernel_rfl) (by kernel_rfl) (fun _ _ _ h => h) (Or.inl ⟨by rfl, by intro w hSw; clear hSw; go_simp⟩) (HSS.out _ I2) ?_
          change wpAnyH _ _ _ _ _ _ _ (Act.put _ (some 44) _) _
          try simp only [Act.put, List.setIfInBounds_toArray, List.set_cons_zero, List.set_cons_succ]
          refine wpAnyH_take (i := 9) (v := .string (bs acc2)) rfl (by kernel_rfl) (by kernel_rfl) (by kernel_rfl) (fun _ _ _ h => h) (Or.inl ⟨by rfl, by intro w hSw; clear hSw; go_simp⟩) (HSS.out _ I2) ?_
          change wpAnyH _ _ _ _ _ _ _ (Act.put _ (some 45) _) _
          try simp only [Act.put, List.setIfInBounds_toArray, List.set_cons_zero, List.set_cons_succ]
          refine wpAnyH_take (i := 10) (v := .string (bs acc2)) rfl (by kernel_rfl) (by kernel_rfl) (by kernel_rfl) (fun _ _ _ h => h) (Or.inl ⟨by rfl, by intro w hSw; clear hSw; go_simp⟩) (HSS.out _ I2) ?_
          change wpAnyH _ _ _ _ _ _ _ (Act.put _ (some 5) _) _
          try simp only [Act.put, List.setIfInBounds_toArray, List.set_cons_zero, List.set_cons_succ]
          refine wpAnyH_done (by kernel_rfl) ?_ _
          have HI2 := Lib.hid I2.2
          clear I0 I2 HSS HBB7 HI ha1 ha2 ha3 ha4
          go_wp2
          go_roundw
          case rel => exact ⟨k + 1, acc2, by omega, by go_num, rfl, HV2, HI2⟩
          case measure => simp [RowKit.intOf]; omega
        · obtain rfl : nA = k := by omega
          have htk : al.take nA = al := List.take_of_length_le (by rw [HNA.out]; exact Nat.le_refl _)
          rw [htk] at HA
          have hal := attrsP_len al
          have hwa := HWA.out
          have hl9 := HL0.out
          have hacl : acc.length ≤ 3000000 := by rw [HA.out, List.length_append]; omega
          have q0 := HB.out.1.cell 0
          have q1 := HB.out.1.cell 1
          have q3 := HB.out.1.cell 3
          clear htk hal hwa hl9
          by_cases hk0 : nK = 0
          · subst hk0
            obtain ⟨acc2, hacc2⟩ : ∃ y, acc ++ [47, 62] = y := ⟨_, rfl⟩
            have ha1 : ∀ W, (Op.stringOp .add (bs acc) ⟨#[47, 62]⟩).run Tryz.prog W = .ok (.string (bs acc2)) W := fun W => add9 acc [47, 62] (by simp only [List.length_cons, List.length_nil]; omega) acc2 hacc2 W
            have HE : Hid (acc2 = R) := Lib.hid (by rw [HP0.out rfl, ← HA.out, hacc2])
            clear hacc2 hacl
            go_wp2
            go_ret
            first | exact ⟨ret_bs HE.out, HB.out.2⟩ | exact ⟨ret_bs HE.out, by rw [← hP]; exact HB.out.2⟩
          · have hk1 : ¬ (nK : Int) = 0 := by omega
            have hk2 : ((nK : Int) == 0) = false := by simpa using hk1
            obtain ⟨acc3, hacc3⟩ : ∃ y, acc ++ [62] = y := ⟨_, rfl⟩
            have ha1 : ∀ W, (Op.stringOp .add (bs acc) ⟨#[62]⟩).run Tryz.prog W = .ok (.string (bs acc3)) W := fun W => add9 acc [62] (by simp only [List.length_cons, List.length_nil]; omega) acc3 hacc3 W
            have HP2 := Lib.hid (HP1.out hk0)
            rw [← HA.out, hacc3] at HP2
            have HL3 : Hid (acc3.length ≤ 3000001) := Lib.hid (by rw [← hacc3]; simp only [List.length_append, List.length_cons, List.length_nil]; omega)
            clear hacc3 hacl HA
            go_wp2
            clear q0 q1 q3 ha1
            go_loopw [5, 58] (fun s5 i wr => ∃ (k : Nat) (acc : Bt), k ≤ nK ∧ i = .int .i64 k ∧ s5 = .string (bs acc) ∧ Hid (acc = acc3 ++ printsX (ks.take k) sp) ∧ Hid (Blk P (.cells #[sV sp, sV nm, .slice aA nA ac, .slice kA nK kc, sV tx] TNo (0, 0)) wr ∧ Below w.heap.size w wr)) (fun _ i _ => nK - (RowKit.intOf i).toNat)
            case atStart => exact ⟨0, acc3, Nat.zero_le _, rfl, rfl, Lib.hid (by rw [List.take_zero, show printsX [] sp = [] from rfl, List.append_nil]), HB⟩
            case round =>
              clear HB
              obtain ⟨j, acc, hj, rfl, rfl, HA, HB⟩ := hrel
              by_cases hjt : j < nK
              · have hjl : j < ks.length := by rw [HNK.out]; exact hjt
                obtain ⟨bb, off, hAe, hT, hbl, hll⟩ := HK.out (by omega)
                obtain ⟨kaA, kac, kkA, kkc, c0, c1, c2, c3, c4, hxk⟩ := XRl.cells hll j hjl
                have HTK := Lib.hid (printsX_take sp hjl)
                have hwm := wXs_mem (List.getElem_mem hjl)
                obtain ⟨kid, hkid⟩ : ∃ a, ks[j] = a := ⟨_, rfl⟩
                rw [hkid] at c0 c1 c2 c3 c4 hxk HTK hwm
                have hb := HB.out.2
                have y0 := (hb.cell (p := ⟨bb, off + j * 5, none⟩) hbl).trans c0
                have y1 := (hb.cell (p := ⟨bb, off + j * 5 + 1, none⟩) hbl).trans c1
                have y2 := (hb.cell (p := ⟨bb, off + j * 5 + 2, none⟩) hbl).trans c2
                have y3 := (hb.cell (p := ⟨bb, off + j * 5 + 3, none⟩) hbl).trans c3
                have y4 := (hb.cell (p := ⟨bb, off + j * 5 + 4, none⟩) hbl).trans c4
                have hB1 := below_alloc8 wr (.cells #[sV kid.space, sV kid.name, .slice kaA kid.attrs.length kac, .slice kkA kid.kids.length kkc, sV kid.text] TNo (0, 0))
                have hB2 := hb.trans (hB1.mono hb.size)
                have HI2 := Lib.hid (HBB.out _ _ HB.out hB1)
                have HC := Lib.hid (HIH.out T kid _ _ sp (Nat.le_trans hwm HWK.out) (hxk.below hB2))
                have hlen : acc.length + (printX kid sp).length ≤ 7000000 := by
                  have h1 := printsX_le (l := ks) sp j
                  have h2 := printsX_len ks sp
                  have h3 := printX_len kid sp
                  have h4 := HWK.out
                  have h5 := HL3.out
                  rw [HA.out, List.length_append]
                  omega
                obtain ⟨kin, hkin⟩ : ∃ y, printX kid sp = y := ⟨_, rfl⟩
                obtain ⟨acc2, hacc2⟩ : ∃ y, acc ++ kin = y := ⟨_, rfl⟩
                rw [hkin] at HC hlen HTK
                have hadd := add9 acc kin (by omega) acc2 hacc2
                have HV : Hid (acc2 = acc3 ++ printsX (ks.take (j + 1)) sp) := Lib.hid (by rw [HTK.out, ← hacc2, HA.out, List.append_assoc])
                have q0 := HI2.out.1.cell 0
                subst hAe
                clear c0 c1 c2 c3 c4 hll hkid hb hB1 hB2 hxk hwm hkin hacc2 hlen
                go_wp2_with fail
                refine HC.out.mono ?_
                rintro e w5 ⟨rfl, b5⟩
                have HB5 := Lib.hid (HBB.out _ _ HI2.out b5)
                clear b5
                go_wp2
                go_roundw
                case rel => exact ⟨j + 1, acc2, by omega, by go_num, rfl, HV, HB5⟩
                case measure => simp [RowKit.intOf]; omega
              · obtain rfl : nK = j := by omega
                have htk : ks.take nK = ks := List.take_of_length_le (by rw [HNK.out]; exact Nat.le_refl _)
                rw [htk] at HA
                have hpl := printsX_len ks sp
                have hwk := HWK.out
                have hl3 := HL3.out
                have hl9 := HL0.out
                have hnml : nm.length ≤ 8001 := HNM.out
                have hacl : acc.length ≤ 6000000 := by rw [HA.out, List.length_append]; omega
                rw [← HA.out] at HP2
                obtain ⟨Z1, hZ1⟩ : ∃ y, acc ++ [60, 47] = y := ⟨_, rfl⟩
                obtain ⟨Z2, hZ2⟩ : ∃ y, Z1 ++ nm = y := ⟨_, rfl⟩
                obtain ⟨Z3, hZ3⟩ : ∃ y, Z2 ++ [62] = y := ⟨_, rfl⟩
                have hz1 : Z1.length ≤ 6000002 := by rw [← hZ1]; simp only [List.length_append, List.length_cons, List.length_nil]; omega
                have hz2 : Z2.length ≤ 6010003 := by rw [← hZ2]; simp only [List.length_append]; omega
                have ha1 : ∀ W, (Op.stringOp .add (bs acc) ⟨#[60, 47]⟩).run Tryz.prog W = .ok (.string (bs Z1)) W := fun W => add9 acc [60, 47] (by simp only [List.length_cons, List.length_nil]; omega) Z1 hZ1 W
                have ha2 : ∀ W, (Op.stringOp .add (bs Z1) (bs nm)).run Tryz.prog W = .ok (.string (bs Z2)) W := fun W => add9 Z1 nm (by omega) Z2 hZ2 W
                have ha3 : ∀ W, (Op.stringOp .add (bs Z2) ⟨#[62]⟩).run Tryz.prog W = .ok (.string (bs Z3)) W := fun W => add9 Z2 [62] (by simp only [List.length_cons, List.length_nil]; omega) Z3 hZ3 W
                have HE : Hid (Z3 = R) := Lib.hid (by rw [HP2.out, hZ1, hZ2, hZ3])
                have q1 := HB.out.1.cell 1
                clear hZ1 hZ2 hZ3 hz1 hz2 hpl hwk hl3 hl9 hnml hacl htk
                go_wp2
                go_ret
                first | exact ⟨ret_bs HE.out, HB.out.2⟩ | exact ⟨ret_bs HE.out, by rw [← hP]; exact HB.out.2⟩
theorem rpr_all : ∀ N : Nat, N ≤ 8000 → RPrC N
  | 0, _ => fun T v x w ar hN _ => by have := wX_eq v; omega
  | N + 1, h => rpr_step (by omega) (rpr_all N (by omega))
theorem rprint_any {T : Nat → Prop} {v : XV} {x : Value} {w : World} (ar : Bt) (hw : wX v ≤ 8000) (hx : XR w T v x) : Calls Tryz.prog 17 #[x, .string (bs ar)] w (fun e w' => e = .returned (.string (bs (printX v ar))) ∧ Below w.heap.size w w') := rpr_all _ hw T v x w ar (Nat.le_refl _) hx
end Go.Proofs.YtklcjimmbkpbdaaGreatDoor
namespace Go.Proofs.YtklcjimmbkpbdaaGreatDoor
open Go.RowKit
open Go.Lib

set_option maxRecDepth 100000 in
set_option maxHeartbeats 1000000 in
theorem law_prints {T : Nat → Prop} {v : XV} {x : Value} {w : World} (hk : XK w T v x) (hm : ML w) :
    Calls Tryz.prog 5 #[x] w (BoO true w) := by
  have hx := XK.xr _ _ hk
  have HM := Lib.hid hm
  have HF : Hid (∀ W, Below w.heap.size w W → Calls Tryz.prog 9 #[] W (fun e w' => e = .returned (.bool true) ∧ Below W.heap.size W w')) := Lib.hid (fun W hW => first_any W (hm.below hW))
  have HSZ := Lib.hid (fun W (hW : Below w.heap.size w W) => rsize_any T 40 40 v x W (by decide) rfl (hx.below hW))
  unfold SzO at HSZ
  have HPR := Lib.hid (fun (hw : wX v ≤ 5000) W (hW : Below w.heap.size w W) => print_any8 (hx.below hW) (by omega) (hm.below hW))
  have HRI := Lib.hid (fun (hw : wX v ≤ 5000) W (hW : Below w.heap.size w W) => rright_any (by omega) (hk.below hW))
  unfold BoO at HRI
  have HRP : Hid (wX v ≤ 5000 → ∀ W, Below w.heap.size w W → Calls Tryz.prog 17 #[x, .string ⟨#[]⟩] W (fun e w' => e = .returned (.string (bs (printX v []))) ∧ Below W.heap.size W w')) := Lib.hid (fun hw W hW => rprint_any [] (by omega) (hx.below hW))
  have HSM : Hid (wX v ≤ 5000 → ∀ W W2 U y, Below w.heap.size w W → XR W2 U v y → Below W2.heap.size W2 W → Calls Tryz.prog 12 #[y, x] W (fun e w' => e = .returned (.bool true) ∧ Below W.heap.size W w')) := Lib.hid (fun hw W W2 U y hW hy h2 => same_any (by have := cX_wX v; omega) (hy.below h2) (hx.below hW))
  obtain ⟨aA, ac, kA, kc, rfl⟩ := xr_one hx
  obtain ⟨nA, hnA⟩ : ∃ n, v.attrs.length = n := ⟨_, rfl⟩
  obtain ⟨nK, hnK⟩ : ∃ n, v.kids.length = n := ⟨_, rfl⟩
  rw [hnA, hnK] at HSZ HPR HRI HRP HSM
  rw [hnA, hnK]
  have HNA := Lib.hid hnA
  have HNK := Lib.hid hnK
  obtain ⟨P, hP⟩ : ∃ P, w.heap.size = P := ⟨_, rfl⟩
  have hb1 := below_alloc8 w (.cells #[sV v.space, sV v.name, .slice aA nA ac, .slice kA nK kc, sV v.text] TNo (0, 0))
  have hPb := Blk.new (.cells #[sV v.space, sV v.name, .slice aA nA ac, .slice kA nK kc, sV v.text] TNo (0, 0)) w
  rw [hP] at hPb
  have HI0 := Lib.hid (And.intro hPb hb1)
  have HBB : Hid (∀ W W', (Blk P (.cells #[sV v.space, sV v.name, .slice aA nA ac, .slice kA nK kc, sV v.text] TNo (0, 0)) W ∧ Below w.heap.size w W) → Below W.heap.size W W' → (Blk P (.cells #[sV v.space, sV v.name, .slice aA nA ac, .slice kA nK kc, sV v.text] TNo (0, 0)) W' ∧ Below w.heap.size w W')) := Lib.hid (fun W W' h b => ⟨(Off.of_below b).blk h.1 (fun h => h), h.2.trans (b.mono h.2.size)⟩)
  clear hx hk hm hnA hnK hPb hb1
  go_enter Tryz.func5, Tryz.ntmps5
  go_wp2_with fail
  refine (HF.out _ HI0.out.2).mono ?_
  rintro e w1 ⟨rfl, b1⟩
  have HI1 := Lib.hid (HBB.out _ _ HI0.out b1)
  clear b1 HF HI0
  have q0 := HI1.out.1.cell 0
  have q1 := HI1.out.1.cell 1
  have q2 := HI1.out.1.cell 2
  have q3 := HI1.out.1.cell 3
  have q4 := HI1.out.1.cell 4
  go_wp2_with fail
  refine (HSZ.out _ HI1.out.2).mono ?_
  rintro e w2 ⟨⟨r, rfl, hr0, hr1, hr2⟩, b2⟩
  have HI2 := Lib.hid (HBB.out _ _ HI1.out b2)
  clear b2 HSZ HI1 q0 q1 q2 q3 q4
  by_cases hbig : 5000 < r
  · clear hr2
    go_wp2
    go_ret
    exact BoO.of rfl HI2.out.2
  · have hw : wX v ≤ 5000 := by have := hr2 (by omega); omega
    have HW := Lib.hid hw
    clear hr2
    have HPR := Lib.hid (HPR.out hw)
    have HRI := Lib.hid (HRI.out hw)
    have HRP := Lib.hid (HRP.out hw)
    have HSM := Lib.hid (HSM.out hw)
    cases hrt : rightX 24 v with
    | false =>
      have e1 : prX v = [] := by unfold prX; rw [hrt]; rfl
      have e2 : prEX v = 2 := by unfold prEX; rw [hrt]; rfl
      rw [e1, e2, show bs ([] : Bt) = ⟨#[]⟩ from rfl] at HPR
      rw [hrt] at HRI
      clear e1 e2 hrt hw
      have q0 := HI2.out.1.cell 0
      have q1 := HI2.out.1.cell 1
      have q2 := HI2.out.1.cell 2
      have q3 := HI2.out.1.cell 3
      have q4 := HI2.out.1.cell 4
      go_wp2_with fail
      refine (HPR.out _ HI2.out.2).mono ?_
      rintro e w3 ⟨rfl, b3⟩
      have HI3 := Lib.hid (HBB.out _ _ HI2.out b3)
      clear b3 HI2 q0 q1 q2 q3 q4
      have q0 := HI3.out.1.cell 0
      have q1 := HI3.out.1.cell 1
      have q2 := HI3.out.1.cell 2
      have q3 := HI3.out.1.cell 3
      have q4 := HI3.out.1.cell 4
      go_wp2_with fail
      refine (HRI.out _ HI3.out.2).mono ?_
      rintro e w4 ⟨rfl, b4⟩
      have HI4 := Lib.hid (HBB.out _ _ HI3.out b4)
      clear b4 HI3 q0 q1 q2 q3 q4
      go_wp2
      go_ret
      exact BoO.of rfl HI4.out.2
    | true =>
      have e1 : prX v = printX v [] := by unfold prX; rw [hrt]; rfl
      have e2 : prEX v = 0 := by unfold prEX; rw [hrt]; rfl
      rw [e1, e2] at HPR
      rw [hrt] at HRI
      have HBK := Lib.hid (fun hl => parse_print hrt hl)
      have hpl := printX_len v []
      obtain ⟨pl, hpl0⟩ : ∃ x, printX v [] = x := ⟨_, rfl⟩
      rw [hpl0] at HPR HRP HBK hpl
      have hlen : pl.length ≤ 1000000 := by omega
      have htt : ((bs pl).toList == (bs pl).toList) = true := beq_self_eq_true _
      obtain ⟨n7, hn7⟩ : ∃ x, pl.length = x := ⟨_, rfl⟩
      have HN7 := Lib.hid hn7
      have hsz : (bs pl).size = n7 := by rw [bs_size, hn7]
      rw [hn7] at hlen
      clear e1 e2 hrt hw hpl hpl0 hn7
      have q0 := HI2.out.1.cell 0
      have q1 := HI2.out.1.cell 1
      have q2 := HI2.out.1.cell 2
      have q3 := HI2.out.1.cell 3
      have q4 := HI2.out.1.cell 4
      go_wp2_with fail
      refine (HPR.out _ HI2.out.2).mono ?_
      rintro e w3 ⟨rfl, b3⟩
      have HI3 := Lib.hid (HBB.out _ _ HI2.out b3)
      clear b3 HI2 q0 q1 q2 q3 q4 HPR
      have q0 := HI3.out.1.cell 0
      have q1 := HI3.out.1.cell 1
      have q2 := HI3.out.1.cell 2
      have q3 := HI3.out.1.cell 3
      have q4 := HI3.out.1.cell 4
      go_wp2_with fail
      refine (HRI.out _ HI3.out.2).mono ?_
      rintro e w4 ⟨rfl, b4⟩
      have HI4 := Lib.hid (HBB.out _ _ HI3.out b4)
      clear b4 HI3 q0 q1 q2 q3 q4 HRI
      obtain ⟨C7, w7, hcv, b7, hr7⟩ := conv_str8 w4 pl
      have HI7 := Lib.hid (HBB.out _ _ HI4.out b7)
      have P2 := parse_any8 (c := C7) (n := n7) HN7.out hr7 (HM.out.below HI7.out.2)
      unfold PaO at P2
      rw [HN7.out] at hcv
      clear b7 hr7
      by_cases hbl : n7 ≤ 65536
      · have hnb : ¬ (65536 : Int) < (n7 : Int) := by omega
        rw [HBK.out (by rw [HN7.out]; exact hbl)] at P2
        have HP2 := Lib.hid P2
        clear P2
        go_wp2_with fail
        refine HP2.out.mono ?_
        clear HP2 hcv
        rintro e w8 ⟨b8, y, rfl, hy⟩
        try simp only at hy
        have HY0 := Lib.hid hy
        obtain ⟨yA, yc, ykA, ykc, rfl⟩ := xr_one hy
        rw [HNA.out, HNK.out] at HY0
        rw [HNA.out, HNK.out]
        have b9 := below_alloc8 w8 (.cells #[sV v.space, sV v.name, .slice yA nA yc, .slice ykA nK ykc, sV v.text] TNo (0, 0))
        have HV9 := Lib.hid (Blk.new (.cells #[sV v.space, sV v.name, .slice yA nA yc, .slice ykA nK ykc, sV v.text] TNo (0, 0)) w8)
        have HI8 := Lib.hid (HBB.out _ _ HI7.out b8)
        have HI9 := Lib.hid (HBB.out _ _ HI8.out b9)
        have HB89 := Lib.hid b9
        clear hy b8 b9 HI7
        have q0 := HI9.out.1.cell 0
        have q1 := HI9.out.1.cell 1
        have q2 := HI9.out.1.cell 2
        have q3 := HI9.out.1.cell 3
        have q4 := HI9.out.1.cell 4
        go_wp2_with fail
        refine (HRP.out _ HI9.out.2).mono ?_
        rintro e w10 ⟨rfl, b10⟩
        have HV10 := Lib.hid ((Off.of_below b10).blk HV9.out (fun h => h))
        have HI10 := Lib.hid (HBB.out _ _ HI9.out b10)
        have HB810 := Lib.hid (HB89.out.trans (b10.mono HB89.out.size))
        clear b10 q0 q1 q2 q3 q4
        have q0 := HI10.out.1.cell 0
        have q1 := HI10.out.1.cell 1
        have q2 := HI10.out.1.cell 2
        have q3 := HI10.out.1.cell 3
        have q4 := HI10.out.1.cell 4
        have j0 := HV10.out.cell 0
        have j1 := HV10.out.cell 1
        have j2 := HV10.out.cell 2
        have j3 := HV10.out.cell 3
        have j4 := HV10.out.cell 4
        go_wp2_with fail
        refine (HSM.out _ _ _ _ HI10.out.2 HY0.out HB810.out).mono ?_
        rintro e w12 ⟨rfl, b12⟩
        have HI12 := Lib.hid (HBB.out _ _ HI10.out b12)
        clear b12
        go_wp2
        go_ret
        exact BoO.of rfl HI12.out.2
      · have hnb : (65536 : Int) < (n7 : Int) := by omega
        have hpx : parseX pl = (zeroX, 72) := by unfold parseX; rw [if_pos (by rw [HN7.out]; omega)]
        rw [hpx] at P2
        have HP2 := Lib.hid P2
        clear P2 hpx
        go_wp2_with fail
        refine HP2.out.mono ?_
        clear HP2 hcv
        rintro e w8 ⟨b8, y, rfl, hy⟩
        obtain ⟨yA, yc, ykA, ykc, rfl⟩ := xr_one hy
        obtain ⟨Y0, hY0⟩ : ∃ s, (zeroX, (72 : Int)).1.space = s := ⟨_, rfl⟩
        obtain ⟨Y1, hY1⟩ : ∃ s, (zeroX, (72 : Int)).1.name = s := ⟨_, rfl⟩
        obtain ⟨Y4, hY4⟩ : ∃ s, (zeroX, (72 : Int)).1.text = s := ⟨_, rfl⟩
        obtain ⟨mA, hmA⟩ : ∃ s, (zeroX, (72 : Int)).1.attrs.length = s := ⟨_, rfl⟩
        obtain ⟨mK, hmK⟩ : ∃ s, (zeroX, (72 : Int)).1.kids.length = s := ⟨_, rfl⟩
        rw [hY0, hY1, hY4, hmA, hmK]
        have b9 := below_alloc8 w8 (.cells #[sV Y0, sV Y1, .slice yA mA yc, .slice ykA mK ykc, sV Y4] TNo (0, 0))
        have HI8 := Lib.hid (HBB.out _ _ HI7.out b8)
        have HI9 := Lib.hid (HBB.out _ _ HI8.out b9)
        clear hy b8 b9 HI7 hY0 hY1 hY4 hmA hmK
        have q0 := HI9.out.1.cell 0
        have q1 := HI9.out.1.cell 1
        have q2 := HI9.out.1.cell 2
        have q3 := HI9.out.1.cell 3
        have q4 := HI9.out.1.cell 4
        go_wp2_with fail
        refine (HRP.out _ HI9.out.2).mono ?_
        rintro e w10 ⟨rfl, b10⟩
        have HI10 := Lib.hid (HBB.out _ _ HI9.out b10)
        clear b10 q0 q1 q2 q3 q4
        go_wp2
        go_ret
        exact BoO.of rfl HI10.out.2
end Go.Proofs.YtklcjimmbkpbdaaGreatDoor
