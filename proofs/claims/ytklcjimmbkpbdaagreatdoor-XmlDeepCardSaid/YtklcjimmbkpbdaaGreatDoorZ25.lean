/-
  The document's Same, on two nodes that read as one. Conditions: nodes of modest weight.
-/
import Derived.Test.YtklcjimmbkpbdaaGreatDoorZ20
import Derived.Test.YtklcjimmbkpbdaaGreatDoorZ02
import Derived.Laws.StructEq
import Derived.Deep.DeepCutAuto
import Derived.Deep.QuietTactic
import Derived.BigQuiet
namespace Go.Proofs.YtklcjimmbkpbdaaGreatDoor
open Go.RowKit
open Go.Lib
theorem fields_attr8 : Tryz.prog.fieldsOf TA3 = #[{ name := "Space", type := 9, offset := 0, embedded := false, tag := "", pkgPath := "", byteOffset := 0 }, { name := "Name", type := 9, offset := 1, embedded := false, tag := "", pkgPath := "", byteOffset := 16 }, { name := "Value", type := 9, offset := 2, embedded := false, tag := "", pkgPath := "", byteOffset := 32 }] := by
 unfold Program.fieldsOf; rw [Tryz.underlying52]
theorem neq_attr8 (a b c : Bt) (W : World) : (binOp .neq TA3 (.agg #[sV a, sV b, sV c]) (.agg #[sV a, sV b, sV c])).run Tryz.prog W = .ok (.bool false) W := by
 have h1 : Tryz.prog.stoodInHeld TA3 = false := by kernel_rfl
 rw [run_neq_struct, run_equalIn_agg W 9999 TA3 _ _ (by rw [fields_attr8]; exact Tryz.underlying52) h1, fields_attr8]
 simp [go_sem, Op.eqFields, Tryz.underlying9]
theorem parse_cX (b : Bt) : cX (parseX b).1 ≤ 70000 := by
 have hz : cX zeroX ≤ 70000 := by rw [cX_eq]; decide
 unfold parseX
 split
 ·exact hz
 ·split
  ·have hu := unbom_len b
   generalize unbomL b = s at *
   unfold docX
   cases h1 : aroundL s with
   | none => exact hz
   | some s1 =>
    simp only
    have l1 : s1.length ≤ s.length := around_le _ (Nat.le_refl _) h1
    cases h2 : wordL [60] s1 with
    | none => exact hz
    | some s2 =>
     simp only
     have l2 := word_len h2
     cases h3 : elemX 0 scope0 s2 with
     | error e => exact hz
     | ok y =>
      obtain ⟨v, s3⟩ := y
      simp only
      have l3 := (kidsN_cX _).1 h3
      cases h4 : aroundL s3 with
      | none => exact hz
      | some r =>
       simp only
       split
       ·show cX v ≤ _
        omega
       ·exact hz
  ·exact hz
def SameC (N : Nat) : Prop := ∀ (T U : Nat → Prop) (v : XV) (x y : Value) (w : World), cX v ≤ N → XR w T v x → XR w U v y → Calls Tryz.prog 12 #[x, y] w (BoO true w)
theorem quiet_neq8 {S : World → Prop} {ops : Array Oper} {a : Act} {dst : Option Nat} {ty : TypeId} {pos : String} {af : Array Edge} {s t : Nat} {x y z : Bt} (h1 : a.eval (.tmp s) = .agg #[sV x, sV y, sV z]) (h2 : a.eval (.tmp t) = .agg #[sV x, sV y, sV z]) :
    YieldsIf Tryz.prog ops S { dst := dst, op := .binOp .neq TA3 (.tmp s) (.tmp t) TA3, type := ty, pos := pos, after := af, guard := none } (.bool false) a := by
 have h3 := neq_attr8 x y z
 refine Or.inl ⟨rfl, fun W _ => ?_⟩
 generalize a.eval = ev at *
 go_simp
set_option maxRecDepth 100000 in
set_option maxHeartbeats 8000000 in
theorem same_step {N : Nat} (hN9 : N ≤ 999999999) (IH : SameC N) : SameC (N + 1) := fun T U v x y w hN hx hy => by
 obtain ⟨sp, nm, al, ks, tx⟩ := v
 obtain ⟨aA, ac, kA, kc, rfl, hR, hK⟩ := XR.attrs hx
 obtain ⟨bA, bc, lA, lc, rfl, hR', hK'⟩ := XR.attrs hy
 have hwe := cX_eq (.mk sp nm al ks tx)
 simp only [XV.attrs, XV.kids] at hwe
 have HR := hid hR
 have HK := hid hK
 have HR' := hid hR'
 have HK' := hid hK'
 have HIH := hid IH
 have HWK : Hid (cXs ks ≤ N) := hid (by omega)
 obtain ⟨nA, hnA⟩ : ∃ n, al.length = n := ⟨_, rfl⟩
 obtain ⟨nK, hnK⟩ : ∃ n, ks.length = n := ⟨_, rfl⟩
 have HNA := hid hnA
 have hnAb : nA ≤ 1000000000 := by omega
 have hnKb : nK ≤ 1000000000 := by have := cXs_len ks; omega
 have HNK := hid hnK
 rw [hnA, hnK]
 obtain ⟨P, hP⟩ : ∃ P, w.heap.size = P := ⟨_, rfl⟩
 have hb1 := below_alloc8 w (.cells #[sV sp, sV nm, .slice aA nA ac, .slice kA nK kc, sV tx] TNo)
 have hPb := Blk.new (.cells #[sV sp, sV nm, .slice aA nA ac, .slice kA nK kc, sV tx] TNo) w
 have hb2 := below_alloc8 (w.alloc (.cells #[sV sp, sV nm, .slice aA nA ac, .slice kA nK kc, sV tx] TNo)) (.cells #[sV sp, sV nm, .slice bA nA bc, .slice lA nK lc, sV tx] TNo)
 have hQb := Blk.new (.cells #[sV sp, sV nm, .slice bA nA bc, .slice lA nK lc, sV tx] TNo) (w.alloc (.cells #[sV sp, sV nm, .slice aA nA ac, .slice kA nK kc, sV tx] TNo))
 have hsz : (w.alloc (.cells #[sV sp, sV nm, .slice aA nA ac, .slice kA nK kc, sV tx] TNo)).heap.size = P + 1 := by simp [hP]
 rw [hsz] at hQb
 have hPb2 := (Off.of_below hb2).blk hPb (fun h => h)
 rw [hP] at hPb2
 have HB0 := hid (And.intro hPb2 (And.intro hQb (hb1.trans (hb2.mono hb1.size))))
 clear hR hK hR' hK' hwe IH hN hx hy hb1 hPb hb2 hQb hsz hPb2 hnA hnK
 have HBB : Hid (∀ W W', (Blk P (.cells #[sV sp, sV nm, .slice aA nA ac, .slice kA nK kc, sV tx] TNo) W ∧ Blk (P + 1) (.cells #[sV sp, sV nm, .slice bA nA bc, .slice lA nK lc, sV tx] TNo) W ∧ Below w.heap.size w W) → Below W.heap.size W W' → (Blk P (.cells #[sV sp, sV nm, .slice aA nA ac, .slice kA nK kc, sV tx] TNo) W' ∧ Blk (P + 1) (.cells #[sV sp, sV nm, .slice bA nA bc, .slice lA nK lc, sV tx] TNo) W' ∧ Below w.heap.size w W')) := hid (fun W W' h b => ⟨(Off.of_below b).blk h.1 (fun h => h), (Off.of_below b).blk h.2.1 (fun h => h), h.2.2.trans (b.mono h.2.2.size)⟩)
 go_enter Tryz.func12, Tryz.ntmps12
 go_wp2
 go_loopw [5, 47] (fun a5 i wr => ∃ k : Nat, k ≤ nA ∧ i = .int .i64 k ∧ Hid (Blk P (.cells #[sV sp, sV nm, .slice aA nA ac, .slice kA nK kc, sV tx] TNo) wr ∧ Blk (P + 1) (.cells #[sV sp, sV nm, .slice bA nA bc, .slice lA nK lc, sV tx] TNo) wr ∧ Below w.heap.size w wr)) (fun _ i _ => nA - (RowKit.intOf i).toNat)
 case atStart => exact ⟨0, Nat.zero_le _, rfl, HB0⟩
 case round =>
  clear HB0
  obtain ⟨k, hk, rfl, HB⟩ := hrel
  by_cases hlt : k < nA
  ·have hkl : k < al.length := by rw [HNA.out]; exact hlt
   obtain ⟨bb, off, hAe, hT, hbl, hcl⟩ := HR.out (by rw [cA_len]; omega)
   obtain ⟨bb', off', hAe', hT', hbl', hcl'⟩ := HR'.out (by rw [cA_len]; omega)
   obtain ⟨c0, c1, c2⟩ := RC.a3 hcl k hkl
   obtain ⟨e0, e1, e2⟩ := RC.a3 hcl' k hkl
   obtain ⟨a, ha⟩ : ∃ a, al[k] = a := ⟨_, rfl⟩
   rw [ha] at c0 c1 c2 e0 e1 e2
   obtain ⟨⟨asp, anm, avl⟩, rfl⟩ : ∃ x : XA, a = x := ⟨_, rfl⟩
   simp only at c0 c1 c2 e0 e1 e2
   have HCE := hid (And.intro (And.intro c0 (And.intro c1 c2)) (And.intro e0 (And.intro e1 e2)))
   subst hAe hAe'
   clear c0 c1 c2 e0 e1 e2 hcl hcl' ha
   have hk1 : (0 : Int) ≤ (k : Int) ∧ (k : Int) < (nA : Int) := by omega
   go_wp2
   have HSS : Hid (∀ W, (Blk P (.cells #[sV sp, sV nm, .slice (some ⟨bb, off, none⟩) nA ac, .slice kA nK kc, sV tx] TNo) W ∧ Blk (P + 1) (.cells #[sV sp, sV nm, .slice (some ⟨bb', off', none⟩) nA bc, .slice lA nK lc, sV tx] TNo) W ∧ Below w.heap.size w W) → (fun W => W.cell? ⟨P, 2, none⟩ = some (.slice (some ⟨bb, off, none⟩) nA ac) ∧ W.cell? ⟨P + 1, 2, none⟩ = some (.slice (some ⟨bb', off', none⟩) nA bc) ∧ W.cell? ⟨bb, off + k * 3, none⟩ = some (sV asp) ∧ W.cell? ⟨bb, off + k * 3 + 1, none⟩ = some (sV anm) ∧ W.cell? ⟨bb, off + k * 3 + 2, none⟩ = some (sV avl) ∧ W.cell? ⟨bb', off' + k * 3, none⟩ = some (sV asp) ∧ W.cell? ⟨bb', off' + k * 3 + 1, none⟩ = some (sV anm) ∧ W.cell? ⟨bb', off' + k * 3 + 2, none⟩ = some (sV avl)) W) := hid (fun W hW => ⟨hW.1.cell 2, hW.2.1.cell 2, (hW.2.2.cell hbl).trans HCE.out.1.1, (hW.2.2.cell hbl).trans HCE.out.1.2.1, (hW.2.2.cell hbl).trans HCE.out.1.2.2, (hW.2.2.cell hbl').trans HCE.out.2.1, (hW.2.2.cell hbl').trans HCE.out.2.2.1, (hW.2.2.cell hbl').trans HCE.out.2.2.2⟩)
   have I0 := HBB.out _ wr.drew HB.out (below_drewN (Below.refl _ _) 1)
   refine wp_region_held_drew (S := fun W => W.cell? ⟨P, 2, none⟩ = some (.slice (some ⟨bb, off, none⟩) nA ac) ∧ W.cell? ⟨P + 1, 2, none⟩ = some (.slice (some ⟨bb', off', none⟩) nA bc) ∧ W.cell? ⟨bb, off + k * 3, none⟩ = some (sV asp) ∧ W.cell? ⟨bb, off + k * 3 + 1, none⟩ = some (sV anm) ∧ W.cell? ⟨bb, off + k * 3 + 2, none⟩ = some (sV avl) ∧ W.cell? ⟨bb', off' + k * 3, none⟩ = some (sV asp) ∧ W.cell? ⟨bb', off' + k * 3 + 1, none⟩ = some (sV anm) ∧ W.cell? ⟨bb', off' + k * 3 + 2, none⟩ = some (sV avl)) (by kernel_rfl) (HSS.out _ I0) (fun _ => ?_)
   generalize wr.drew = w0 at *
   refine wpAnyH_take (i := 0) (v := .pointer (some ⟨P, 2, none⟩)) rfl (by kernel_rfl) (by kernel_rfl) (by kernel_rfl) (fun _ _ _ h => h) (Or.inl ⟨by rfl, by intro w hSw; clear hSw; go_simp⟩) (HSS.out _ I0) ?_
   change wpAnyH _ _ _ _ _ _ _ (Act.put _ (some 50) _) _
   try simp only [Act.put, zA8, zB8, zC8]
   refine wpAnyH_take (i := 1) (v := .slice (some ⟨bb, off, none⟩) nA ac) rfl (by kernel_rfl) (by kernel_rfl) (by kernel_rfl) (fun _ _ _ h => h) (Or.inl ⟨by rfl, by intro w hSw; (try dsimp only at hSw); go_simp⟩) (HSS.out _ I0) ?_
   change wpAnyH _ _ _ _ _ _ _ (Act.put _ (some 51) _) _
   try simp only [Act.put, zA8, zB8, zC8]
   refine wpAnyH_take (i := 2) (v := .int .i64 k) rfl (by kernel_rfl) (by kernel_rfl) (by kernel_rfl) (fun _ _ _ h => h) (Or.inl ⟨by rfl, by intro w hSw; clear hSw; go_simp⟩) (HSS.out _ I0) ?_
   change wpAnyH _ _ _ _ _ _ _ (Act.put _ (some 52) _) _
   try simp only [Act.put, zA8, zB8, zC8]
   refine wpAnyH_take (i := 3) (v := .pointer (some ⟨bb, off + k * 3, none⟩)) rfl (by kernel_rfl) (by kernel_rfl) (by kernel_rfl) (fun _ _ _ h => h) (Or.inl ⟨by rfl, by intro w hSw; clear hSw; go_simp⟩) (HSS.out _ I0) ?_
   change wpAnyH _ _ _ _ _ _ _ (Act.put _ (some 53) _) _
   try simp only [Act.put, zA8, zB8, zC8]
   refine wpAnyH_take (i := 4) (v := .agg #[sV asp, sV anm, sV avl]) rfl (by kernel_rfl) (by kernel_rfl) (by kernel_rfl) (fun _ _ _ h => h) (Or.inl ⟨by rfl, by intro w hSw; (try dsimp only at hSw); go_simp⟩) (HSS.out _ I0) ?_
   change wpAnyH _ _ _ _ _ _ _ (Act.put _ (some 54) _) _
   try simp only [Act.put, zA8, zB8, zC8]
   refine wpAnyH_take (i := 5) (v := .pointer (some ⟨P + 1, 2, none⟩)) rfl (by kernel_rfl) (by kernel_rfl) (by kernel_rfl) (fun _ _ _ h => h) (Or.inl ⟨by rfl, by intro w hSw; clear hSw; go_simp⟩) (HSS.out _ I0) ?_
   change wpAnyH _ _ _ _ _ _ _ (Act.put _ (some 55) _) _
   try simp only [Act.put, zA8, zB8, zC8]
   refine wpAnyH_take (i := 6) (v := .slice (some ⟨bb', off', none⟩) nA bc) rfl (by kernel_rfl) (by kernel_rfl) (by kernel_rfl) (fun _ _ _ h => h) (Or.inl ⟨by rfl, by intro w hSw; (try dsimp only at hSw); go_simp⟩) (HSS.out _ I0) ?_
   change wpAnyH _ _ _ _ _ _ _ (Act.put _ (some 56) _) _
   try simp only [Act.put, zA8, zB8, zC8]
   refine wpAnyH_take (i := 7) (v := .int .i64 k) rfl (by kernel_rfl) (by kernel_rfl) (by kernel_rfl) (fun _ _ _ h => h) (Or.inl ⟨by rfl, by intro w hSw; clear hSw; go_simp⟩) (HSS.out _ I0) ?_
   change wpAnyH _ _ _ _ _ _ _ (Act.put _ (some 57) _) _
   try simp only [Act.put, zA8, zB8, zC8]
   refine wpAnyH_take (i := 8) (v := .pointer (some ⟨bb', off' + k * 3, none⟩)) rfl (by kernel_rfl) (by kernel_rfl) (by kernel_rfl) (fun _ _ _ h => h) (Or.inl ⟨by rfl, by intro w hSw; clear hSw; go_simp⟩) (HSS.out _ I0) ?_
   change wpAnyH _ _ _ _ _ _ _ (Act.put _ (some 58) _) _
   try simp only [Act.put, zA8, zB8, zC8]
   refine wpAnyH_take (i := 9) (v := .agg #[sV asp, sV anm, sV avl]) rfl (by kernel_rfl) (by kernel_rfl) (by kernel_rfl) (fun _ _ _ h => h) (Or.inl ⟨by rfl, by intro w hSw; (try dsimp only at hSw); go_simp⟩) (HSS.out _ I0) ?_
   change wpAnyH _ _ _ _ _ _ _ (Act.put _ (some 59) _) _
   try simp only [Act.put, zA8, zB8, zC8]
   refine wpAnyH_take (i := 10) (v := .bool false) rfl (by kernel_rfl) (by kernel_rfl) (by kernel_rfl) (fun _ _ _ h => h) (quiet_neq8 rfl rfl) (HSS.out _ I0) ?_
   change wpAnyH _ _ _ _ _ _ _ (Act.put _ (some 60) _) _
   try simp only [Act.put, zA8, zB8, zC8]
   refine wpAnyH_done (by kernel_rfl) ?_ _
   have HI0 := hid I0
   clear I0 HSS
   go_wp2
   go_roundw
   case rel => exact ⟨k + 1, by omega, by go_num, HI0⟩
   case measure => simp [RowKit.intOf]; omega
  ·obtain rfl : nA = k := by omega
   have p3 := HB.out.1.cell 3
   go_wp2
   clear p3
   go_loopw [6, 65] (fun a6 i wr => ∃ k : Nat, k ≤ nK ∧ i = .int .i64 k ∧ Hid (Blk P (.cells #[sV sp, sV nm, .slice aA nA ac, .slice kA nK kc, sV tx] TNo) wr ∧ Blk (P + 1) (.cells #[sV sp, sV nm, .slice bA nA bc, .slice lA nK lc, sV tx] TNo) wr ∧ Below w.heap.size w wr)) (fun _ i _ => nK - (RowKit.intOf i).toNat)
   case atStart => exact ⟨0, Nat.zero_le _, rfl, HB⟩
   case round =>
    clear HB
    obtain ⟨j, hj, rfl, HB⟩ := hrel
    by_cases hjt : j < nK
    ·have hjl : j < ks.length := by rw [HNK.out]; exact hjt
     obtain ⟨bb, off, hAe, hT, hbl, hll⟩ := HK.out (by omega)
     obtain ⟨bb', off', hAe', hT', hbl', hll'⟩ := HK'.out (by omega)
     obtain ⟨kaA, kac, kkA, kkc, c0, c1, c2, c3, c4, hxk⟩ := XRl.cells hll j hjl
     obtain ⟨maA, mac, mkA, mkc, e0, e1, e2, e3, e4, hyk⟩ := XRl.cells hll' j hjl
     have hwm := cXs_mem (List.getElem_mem hjl)
     obtain ⟨kid, hkid⟩ : ∃ a, ks[j] = a := ⟨_, rfl⟩
     rw [hkid] at c0 c1 c2 c3 c4 hxk e0 e1 e2 e3 e4 hyk hwm
     have HSM := hid (fun (W : World) (hW : Below w.heap.size w W) => HIH.out T U kid _ _ W (Nat.le_trans hwm HWK.out) (hxk.below hW) (hyk.below hW))
     unfold BoO at HSM
     obtain ⟨kn, hkn⟩ : ∃ n, kid.attrs.length = n := ⟨_, rfl⟩
     obtain ⟨kkn, hkkn⟩ : ∃ n, kid.kids.length = n := ⟨_, rfl⟩
     rw [hkn] at c2 e2 HSM
     rw [hkkn] at c3 e3 HSM
     have HCE := hid (And.intro (And.intro c0 (And.intro c1 (And.intro c2 (And.intro c3 c4)))) (And.intro e0 (And.intro e1 (And.intro e2 (And.intro e3 e4)))))
     subst hAe hAe'
     clear c0 c1 c2 c3 c4 e0 e1 e2 e3 e4 hll hll' hkid hwm hkn hkkn hxk hyk
     have hk1 : (0 : Int) ≤ (j : Int) ∧ (j : Int) < (nK : Int) := by omega
     go_wp2
     have HSS : Hid (∀ W, (Blk P (.cells #[sV sp, sV nm, .slice aA nA ac, .slice (some ⟨bb, off, none⟩) nK kc, sV tx] TNo) W ∧ Blk (P + 1) (.cells #[sV sp, sV nm, .slice bA nA bc, .slice (some ⟨bb', off', none⟩) nK lc, sV tx] TNo) W ∧ Below w.heap.size w W) → (fun W => W.cell? ⟨P, 3, none⟩ = some (.slice (some ⟨bb, off, none⟩) nK kc) ∧ W.cell? ⟨P + 1, 3, none⟩ = some (.slice (some ⟨bb', off', none⟩) nK lc) ∧ W.cell? ⟨bb, off + j * 5, none⟩ = some (sV kid.space) ∧ W.cell? ⟨bb, off + j * 5 + 1, none⟩ = some (sV kid.name) ∧ W.cell? ⟨bb, off + j * 5 + 2, none⟩ = some (.slice kaA kn kac) ∧ W.cell? ⟨bb, off + j * 5 + 3, none⟩ = some (.slice kkA kkn kkc) ∧ W.cell? ⟨bb, off + j * 5 + 4, none⟩ = some (sV kid.text) ∧ W.cell? ⟨bb', off' + j * 5, none⟩ = some (sV kid.space) ∧ W.cell? ⟨bb', off' + j * 5 + 1, none⟩ = some (sV kid.name) ∧ W.cell? ⟨bb', off' + j * 5 + 2, none⟩ = some (.slice maA kn mac) ∧ W.cell? ⟨bb', off' + j * 5 + 3, none⟩ = some (.slice mkA kkn mkc) ∧ W.cell? ⟨bb', off' + j * 5 + 4, none⟩ = some (sV kid.text)) W) := hid (fun W hW => ⟨hW.1.cell 3, hW.2.1.cell 3, (hW.2.2.cell hbl).trans HCE.out.1.1, (hW.2.2.cell hbl).trans HCE.out.1.2.1, (hW.2.2.cell hbl).trans HCE.out.1.2.2.1, (hW.2.2.cell hbl).trans HCE.out.1.2.2.2.1, (hW.2.2.cell hbl).trans HCE.out.1.2.2.2.2, (hW.2.2.cell hbl').trans HCE.out.2.1, (hW.2.2.cell hbl').trans HCE.out.2.2.1, (hW.2.2.cell hbl').trans HCE.out.2.2.2.1, (hW.2.2.cell hbl').trans HCE.out.2.2.2.2.1, (hW.2.2.cell hbl').trans HCE.out.2.2.2.2.2⟩)
     have I0 := HBB.out _ wr.drew HB.out (below_drewN (Below.refl _ _) 1)
     refine wp_region_held_drew (S := fun W => W.cell? ⟨P, 3, none⟩ = some (.slice (some ⟨bb, off, none⟩) nK kc) ∧ W.cell? ⟨P + 1, 3, none⟩ = some (.slice (some ⟨bb', off', none⟩) nK lc) ∧ W.cell? ⟨bb, off + j * 5, none⟩ = some (sV kid.space) ∧ W.cell? ⟨bb, off + j * 5 + 1, none⟩ = some (sV kid.name) ∧ W.cell? ⟨bb, off + j * 5 + 2, none⟩ = some (.slice kaA kn kac) ∧ W.cell? ⟨bb, off + j * 5 + 3, none⟩ = some (.slice kkA kkn kkc) ∧ W.cell? ⟨bb, off + j * 5 + 4, none⟩ = some (sV kid.text) ∧ W.cell? ⟨bb', off' + j * 5, none⟩ = some (sV kid.space) ∧ W.cell? ⟨bb', off' + j * 5 + 1, none⟩ = some (sV kid.name) ∧ W.cell? ⟨bb', off' + j * 5 + 2, none⟩ = some (.slice maA kn mac) ∧ W.cell? ⟨bb', off' + j * 5 + 3, none⟩ = some (.slice mkA kkn mkc) ∧ W.cell? ⟨bb', off' + j * 5 + 4, none⟩ = some (sV kid.text)) (by kernel_rfl) (HSS.out _ I0) (fun _ => ?_)
     generalize wr.drew = w0 at *
     refine wpAnyH_take (i := 0) (v := .pointer (some ⟨P, 3, none⟩)) rfl (by kernel_rfl) (by kernel_rfl) (by kernel_rfl) (fun _ _ _ h => h) (Or.inl ⟨by rfl, by intro w hSw; clear hSw; go_simp⟩) (HSS.out _ I0) ?_
     change wpAnyH _ _ _ _ _ _ _ (Act.put _ (some 68) _) _
     try simp only [Act.put, zA8, zB8, zC8]
     refine wpAnyH_take (i := 1) (v := .slice (some ⟨bb, off, none⟩) nK kc) rfl (by kernel_rfl) (by kernel_rfl) (by kernel_rfl) (fun _ _ _ h => h) (Or.inl ⟨by rfl, by intro w hSw; (try dsimp only at hSw); go_simp⟩) (HSS.out _ I0) ?_
     change wpAnyH _ _ _ _ _ _ _ (Act.put _ (some 69) _) _
     try simp only [Act.put, zA8, zB8, zC8]
     refine wpAnyH_take (i := 2) (v := .int .i64 j) rfl (by kernel_rfl) (by kernel_rfl) (by kernel_rfl) (fun _ _ _ h => h) (Or.inl ⟨by rfl, by intro w hSw; clear hSw; go_simp⟩) (HSS.out _ I0) ?_
     change wpAnyH _ _ _ _ _ _ _ (Act.put _ (some 70) _) _
     try simp only [Act.put, zA8, zB8, zC8]
     refine wpAnyH_take (i := 3) (v := .pointer (some ⟨bb, off + j * 5, none⟩)) rfl (by kernel_rfl) (by kernel_rfl) (by kernel_rfl) (fun _ _ _ h => h) (Or.inl ⟨by rfl, by intro w hSw; clear hSw; go_simp⟩) (HSS.out _ I0) ?_
     change wpAnyH _ _ _ _ _ _ _ (Act.put _ (some 71) _) _
     try simp only [Act.put, zA8, zB8, zC8]
     refine wpAnyH_take (i := 4) (v := .agg #[sV kid.space, sV kid.name, .slice kaA kn kac, .slice kkA kkn kkc, sV kid.text]) rfl (by kernel_rfl) (by kernel_rfl) (by kernel_rfl) (fun _ _ _ h => h) (Or.inl ⟨by rfl, by intro w hSw; (try dsimp only at hSw); go_simp⟩) (HSS.out _ I0) ?_
     change wpAnyH _ _ _ _ _ _ _ (Act.put _ (some 72) _) _
     try simp only [Act.put, zA8, zB8, zC8]
     refine wpAnyH_take (i := 5) (v := .pointer (some ⟨P + 1, 3, none⟩)) rfl (by kernel_rfl) (by kernel_rfl) (by kernel_rfl) (fun _ _ _ h => h) (Or.inl ⟨by rfl, by intro w hSw; clear hSw; go_simp⟩) (HSS.out _ I0) ?_
     change wpAnyH _ _ _ _ _ _ _ (Act.put _ (some 73) _) _
     try simp only [Act.put, zA8, zB8, zC8]
     refine wpAnyH_take (i := 6) (v := .slice (some ⟨bb', off', none⟩) nK lc) rfl (by kernel_rfl) (by kernel_rfl) (by kernel_rfl) (fun _ _ _ h => h) (Or.inl ⟨by rfl, by intro w hSw; (try dsimp only at hSw); go_simp⟩) (HSS.out _ I0) ?_
     change wpAnyH _ _ _ _ _ _ _ (Act.put _ (some 74) _) _
     try simp only [Act.put, zA8, zB8, zC8]
     refine wpAnyH_take (i := 7) (v := .int .i64 j) rfl (by kernel_rfl) (by kernel_rfl) (by kernel_rfl) (fun _ _ _ h => h) (Or.inl ⟨by rfl, by intro w hSw; clear hSw; go_simp⟩) (HSS.out _ I0) ?_
     change wpAnyH _ _ _ _ _ _ _ (Act.put _ (some 75) _) _
     try simp only [Act.put, zA8, zB8, zC8]
     refine wpAnyH_take (i := 8) (v := .pointer (some ⟨bb', off' + j * 5, none⟩)) rfl (by kernel_rfl) (by kernel_rfl) (by kernel_rfl) (fun _ _ _ h => h) (Or.inl ⟨by rfl, by intro w hSw; clear hSw; go_simp⟩) (HSS.out _ I0) ?_
     change wpAnyH _ _ _ _ _ _ _ (Act.put _ (some 76) _) _
     try simp only [Act.put, zA8, zB8, zC8]
     refine wpAnyH_take (i := 9) (v := .agg #[sV kid.space, sV kid.name, .slice maA kn mac, .slice mkA kkn mkc, sV kid.text]) rfl (by kernel_rfl) (by kernel_rfl) (by kernel_rfl) (fun _ _ _ h => h) (Or.inl ⟨by rfl, by intro w hSw; (try dsimp only at hSw); go_simp⟩) (HSS.out _ I0) ?_
     change wpAnyH _ _ _ _ _ _ _ (Act.put _ (some 77) _) _
     try simp only [Act.put, zA8, zB8, zC8]
     refine wpAnyH_ready (rs := [10]) (by kernel_rfl) (by simp) ?_
     refine AllReadyH.cons (o := { dst := some 78, op := .call { callee := .value (.func 12), args := #[.tmp 72, .tmp 77], argTypes := _ }, type := _, pos := _, after := _, guard := none }) rfl (fun K0 hK => ?_) AllReadyH.nil
     go_simp
     (with_reducible refine (HSM.out _ I0.2.2).mono ?_)
     rintro e w2 ⟨rfl, b2⟩
     have I2 := HBB.out _ _ I0 b2
     clear b2
     refine hK.out _ _ (HSS.out _ I2) (fun _ => ?_)
     clear hK
     try simp only [Act.put, zA8, zB8, zC8]
     refine wpAnyH_take (i := 11) (v := .bool false) rfl (by kernel_rfl) (by kernel_rfl) (by kernel_rfl) (fun _ _ _ h => h) (Or.inl ⟨by rfl, by intro w hSw; clear hSw; go_simp⟩) (HSS.out _ I2) ?_
     change wpAnyH _ _ _ _ _ _ _ (Act.put _ (some 79) _) _
     try simp only [Act.put, zA8, zB8, zC8]
     refine wpAnyH_done (by kernel_rfl) ?_ _
     have HI2 := hid I2
     clear I0 I2 HSS
     go_wp2
     go_roundw
     case rel => exact ⟨j + 1, by omega, by go_num, HI2⟩
     case measure => simp [RowKit.intOf]; omega
    ·obtain rfl : nK = j := by omega
     go_wp2
     go_ret
     exact ⟨rfl, HB.out.2.2⟩
theorem same_all : ∀ N : Nat, N ≤ 1000000000 → SameC N
 | 0, _ => fun T U v x y w hN _ _ => by have := cX_eq v; omega
 | N + 1, h => same_step (by omega) (same_all N (by omega))
theorem same_any {T U : Nat → Prop} {v : XV} {x y : Value} {w : World} (hw : cX v ≤ 1000000000) (hx : XR w T v x) (hy : XR w U v y) : Calls Tryz.prog 12 #[x, y] w (BoO true w) := same_all _ hw T U v x y w (Nat.le_refl _) hx hy
end Go.Proofs.YtklcjimmbkpbdaaGreatDoor
