/-
  Of the proof that disks answer every script as the document says: the parts VU VV. No conditions.
-/
import Derived.Test.YtbodkjifpmencaaGreatY07
namespace Go.Proofs.YtbodkjifpmencaaGreat
open Go.RowKit
open Go.Lib

def cutZ (A : Option Addr) (c l s : Nat) : Option Addr := if c = l then A else A.map (·.add (l * s))
theorem size_u8 (W : World) : (sizeOf 5).run Tryz.prog W = .ok 1 W := size_of (by kernel_rfl) W
theorem size_ch (W : World) : (sizeOf TC).run Tryz.prog W = .ok 3 W := size_of (by kernel_rfl) W
theorem cut_upto (A : Option Addr) (n c i : Nat) (hi : i ≤ c) (U : World) : (Instr.slice 28 (.slice A n c) none (some (.int .i64 (i : Int))) none).run Tryz.prog U = .ok (.slice (cutZ A c 0 1) i c) U := by
  have he : Tryz.prog.elem 28 = 5 := by kernel_rfl
  rw [run_slice_h U 28 A n c (by rw [he]; exact Tryz.underlying28) .i64 (i : Int) (by omega) (by omega), he, size_u8]
  rfl
theorem cut_ch (A : Option Addr) (n c i : Nat) (hi : i ≤ c) (U : World) : (Instr.slice 87 (.slice A n c) none (some (.int .i64 (i : Int))) none).run Tryz.prog U = .ok (.slice (cutZ A c 0 3) i c) U := by
  have he : Tryz.prog.elem 87 = TC := by kernel_rfl
  rw [run_slice_h U 87 A n c (by rw [he]; exact Tryz.underlying87) .i64 (i : Int) (by omega) (by omega), he, size_ch]
  rfl
theorem cut_ints (A : Option Addr) (n c i : Nat) (hi : i ≤ n) (U : World) : (Instr.slice 29 (.slice A n c) (some (.int .i64 (i : Int))) none none).run Tryz.prog U = .ok (.slice (cutZ A c i 1) (n - i) (c - i)) U := by
  have he : Tryz.prog.elem 29 = 3 := by kernel_rfl
  rw [run_slice_l U 29 A n c (by rw [he]; exact Tryz.underlying29) .i64 (i : Int) (by omega) (by omega), he, sizeI]
  rfl
theorem cutZ_zero (b o c s : Nat) : cutZ (some ⟨b, o, none⟩) c 0 s = some ⟨b, o, none⟩ := by
  unfold cutZ
  split
  · rfl
  · rw [Nat.zero_mul]; show some (Addr.add ⟨b, o, none⟩ 0) = _; rw [Addr.add_mid]; rfl
theorem RB.upto {w : World} {A : Option Addr} {l : Bs} (h : RB w A l) (c i : Nat) (hi : i ≤ l.length) : RB w (cutZ A c 0 1) (l.take i) := fun hz => by
  rw [List.length_take] at hz
  obtain ⟨b, off, rfl, hb, hc⟩ := h (by omega)
  refine ⟨b, off, cutZ_zero _ _ _ _, hb, fun j hj => ?_⟩
  rw [List.length_take] at hj
  rw [hc j (by omega)]
  unfold bf
  simp only [List.getD]
  rw [List.getElem?_take_of_lt (by omega)]
theorem RC.upto {L : Lay} {w : World} {A : Option Addr} {l : List QC} (h : RC L w A l) (c i : Nat) (hi : i ≤ l.length) : RC L w (cutZ A c 0 3) (l.take i) := fun hz => by
  rw [List.length_take] at hz
  obtain ⟨b, off, rfl, hb, hc⟩ := h (by omega)
  refine ⟨b, off, cutZ_zero _ _ _ _, hb, fun j hj => ?_⟩
  rw [List.length_take] at hj
  have := hc j (by omega)
  rw [List.getElem_take]
  exact this
theorem wp_st1 {o : Oper} {act : Act} {K : Act → World → Prop} {w : World} {Q : Exit → Act → World → Prop} {T : TypeId} {x y : Operand} {b k : Nat} {cs : Array Value} {t : TypeId} {v : Value} (ho : o.op = .store T x y)
    (hx : act.eval x = .pointer (some ⟨b, k, none⟩)) (hy : act.eval y = v) (H : Blk b (.cells cs t (0, 0)) w) (hk : k < cs.size) (h1 : v.oneCell' = true) (hT : ∀ w, (Go.sizeOf T).run Tryz.prog w = .ok 1 w)
    (hK : ∀ w', Blk b (.cells (cs.setIfInBounds k v) t (0, 0)) w' → w.grownBy w' (some b) → K (act.put o.dst undef) w') : o.wp Tryz.prog act w K Q := by
  have hc : w.cell? ⟨b, k, none⟩ = some cs[k] := by rw [H.cell]; exact Array.getElem?_eq_getElem hk
  have hf := H.free k
  have e0 : (⟨b, k, none⟩ : Addr).add 0 = ⟨b, k, none⟩ := by simp [Addr.add]
  have hst := run_store Tryz.prog w ⟨b, k, none⟩ v .plain h1
  rw [hc] at hst
  simp only [hf] at hst
  have hcl : v.cells = #[v] := by cases v <;> first | rfl | (simp [Value.oneCell'] at h1)
  have hr : (Instr.storeAt T (.pointer (some ⟨b, k, none⟩)) v).run Tryz.prog w = .ok () (w.setCell ⟨b, k, none⟩ v) := by
    simp [Instr.storeAt, Instr.sureAddr, storeVar, hT, hcl, storeCells, e0, hst]
  unfold Oper.wp execOp
  simp only [ho, hx, hy, Sem.run_bind, Sem.run_pure, Result.andThen_ok, hr]
  exact hK _ (H.set k v) (grown_set _ _ _ _)
set_option maxRecDepth 100000 in
set_option maxHeartbeats 1000000 in
theorem stay_any {L : Lay} {q : Q} {w : World} (H : QD L q w) {N : Nat} (hS : Small N q) (hN : N ≤ 1048576) {k : Nat} (hk : k < q.bodies.length) (m : Nat) (hm : (qbody q k).kept + m ≤ (qbody q k).now.length) :
    Calls Tryz.prog 54 #[ptr (L.bl k), .int .i64 (m : Int)] w fun e w' => e = .returned (.tuple #[]) ∧ ∃ v, Step L q w (upB L k v) { q with bodies := q.bodies.set k ⟨(qbody q k).now.take ((qbody q k).kept + m), (qbody q k).kept + m⟩ } w' := by
  obtain ⟨A, c, hv, hnc, hRB, hbk⟩ := (H.row k hk).read
  have hB1 : Blk (L.bl k) (.cells (bcells k (.slice A (qbody q k).now.length c) (qbody q k).kept) TB (0, 0)) w := by rw [← hv]; exact H.bod k hk
  have hnl := (hS.body k).1
  obtain ⟨kp, hkp⟩ : ∃ n, (qbody q k).kept = n := ⟨_, rfl⟩
  obtain ⟨nw, hnw⟩ : ∃ n, (qbody q k).now.length = n := ⟨_, rfl⟩
  obtain ⟨M, hM⟩ : ∃ M, kp + m = M := ⟨_, rfl⟩
  have hMn : M ≤ nw := by omega
  rw [hkp, hnw] at hB1
  rw [hkp, hM]
  rw [hnw] at hnc hnl
  have hMI : (kp : Int) + (m : Int) = (M : Int) := by omega
  have HMI := Lib.hid hMI
  -- what is cloned
  obtain ⟨w1, hw1⟩ : ∃ W, w.setCell ⟨L.bl k, 2, none⟩ (.int .i64 (M : Int)) = W := ⟨_, rfl⟩
  have g1 : w.grownBy w1 (some (L.bl k)) := by rw [← hw1]; exact grown_set _ _ _ _
  have hB2 : Blk (L.bl k) (.cells (bcells k (.slice A nw c) M) TB (0, 0)) w1 := by rw [← hw1]; exact hB1.set 2 (.int .i64 (M : Int))
  have hnf : ∀ b, aBlock A = some b → ¬ some (L.bl k) = some b := fun b hb e => by
    rw [hbk] at hb
    exact ne_kind (H.kr hk hb) (H.kb hk) (by decide) (Option.some.inj e).symm
  have hRB1 : RB w1 A (qbody q k).now := hRB.off (Off.of_grown g1) hnf
  have hcl : Calls Tryz.prog 35 #[.slice (cutZ A c 0 1) M c] w1.drew fun e w' => ∃ v, e = .returned v ∧ OwnB w' w1.heap.size v ((qbody q k).now.take M) ∧ Below w1.heap.size w1 w' := by
    have hlen : ((qbody q k).now.take M).length = M := by rw [List.length_take]; omega
    have h := bclone_any ((qbody q k).now.take M) (cutZ A c 0 1) c w1.drew (RB.upto (w := w1.drew) hRB1 c M (by omega)) (by rw [hlen]; omega)
    rw [hlen] at h
    exact h.mono fun e w' ⟨v, h1, h2, h3⟩ => ⟨v, h1, h2, Below.trans (show Below w1.heap.size w1 w1.drew from Kept.drew (Below.refl _ _)) h3⟩
  have HCL := Lib.hid hcl
  have HC := Lib.hid (fun U => cut_upto A nw c M (by omega) U)
  have a1 : w.cell? ⟨L.bl k, 2, none⟩ = some (.int .i64 (kp : Int)) := hB1.cell 2
  have f1 : w.frozen? ⟨L.bl k, 2, none⟩ = false := hB1.free 2
  have a2 : w1.cell? ⟨L.bl k, 1, none⟩ = some (.slice A nw c) := hB2.cell 1
  have a3 : w1.cell? ⟨L.bl k, 2, none⟩ = some (.int .i64 (M : Int)) := hB2.cell 2
  have HH := Lib.hid H
  have HG1 := Lib.hid g1
  have HB2 := Lib.hid hB2
  have HW1 := Lib.hid hw1
  have HV := Lib.hid hv
  have hml : m ≤ 1048576 := by omega
  have hkl : kp ≤ 1048576 := by omega
  clear H hS hv hRB hbk hB1 hnf hRB1 hcl g1 hB2 hw1 hm hkp hnw hM hMI
  unfold ptr
  go_enter Tryz.func54, Tryz.ntmps54
  go_wp2
  rw [HMI.out, HW1.out]
  have hcell : ∀ W, Kept w1 W → W.cell? ⟨L.bl k, 2, none⟩ = some (.int .i64 (M : Int)) := fun W h => (HB2.out.grown (grown_below h none) (by simp)).cell 2
  have HCE := Lib.hid hcell
  have hd1 : w1.drew.cell? ⟨L.bl k, 1, none⟩ = some (.slice A nw c) := a2
  have hk1 : Kept w1 w1.drew := Kept.drew (Below.refl _ _)
  have HKD := Lib.hid hk1
  clear a1 a2 a3 f1 hcell
  refine wp_region_held_drew (S := fun W => W.cell? ⟨L.bl k, 2, none⟩ = some (.int .i64 (M : Int))) (by kernel_rfl) (HCE.out _ hk1) (fun hHeld => ?_)
  clear hk1
  refine wpAnyH_take (i := 0) (v := ?v0) rfl (by kernel_rfl) (by kernel_rfl) (by kernel_rfl) (fun _ _ _ h => h) (Or.inl ⟨by rfl, ?y0⟩) (by assumption) ?r0
  case y0 => (intro W hSw; (try dsimp only at hSw); go_simp <;> with_reducible rfl)
  change wpAnyH _ _ _ _ _ _ _ (Act.put _ (some 12) _) _
  simp only [Act.put, List.setIfInBounds_toArray, List.set_cons_zero, List.set_cons_succ]
  refine wpAnyH_take (i := 1) (v := ?v1) rfl (by kernel_rfl) (by kernel_rfl) (by kernel_rfl) (fun _ _ _ h => h) (Or.inl ⟨by rfl, ?y1⟩) (by assumption) ?r1
  case y1 => (intro W hSw; (try dsimp only at hSw); go_simp <;> with_reducible rfl)
  change wpAnyH _ _ _ _ _ _ _ (Act.put _ (some 13) _) _
  simp only [Act.put, List.setIfInBounds_toArray, List.set_cons_zero, List.set_cons_succ]
  refine wpAnyH_take (i := 2) (v := ?v2) rfl (by kernel_rfl) (by kernel_rfl) (by kernel_rfl) (fun _ _ _ h => h) (Or.inl ⟨by rfl, ?y2⟩) (by assumption) ?r2
  case y2 => (intro W hSw; (try dsimp only at hSw); go_simp <;> with_reducible rfl)
  change wpAnyH _ _ _ _ _ _ _ (Act.put _ (some 14) _) _
  simp only [Act.put, List.setIfInBounds_toArray, List.set_cons_zero, List.set_cons_succ]
  refine wpAnyH_take (i := 3) (v := ?v3) rfl (by kernel_rfl) (by kernel_rfl) (by kernel_rfl) (fun _ _ _ h => h) (Or.inl ⟨by rfl, ?y3⟩) (by assumption) ?r3
  case y3 => (intro W hSw; (try dsimp only at hSw); go_simp <;> with_reducible rfl)
  change wpAnyH _ _ _ _ _ _ _ (Act.put _ (some 15) _) _
  simp only [Act.put, List.setIfInBounds_toArray, List.set_cons_zero, List.set_cons_succ]
  refine wpAnyH_take (i := 5) (v := ?v5) rfl (by kernel_rfl) (by kernel_rfl) (by kernel_rfl) (fun _ _ _ h => h) (Or.inl ⟨by rfl, ?y5⟩) (by assumption) ?r5
  case y5 => (intro W hSw; (try dsimp only at hSw); go_simp <;> with_reducible rfl)
  change wpAnyH _ _ _ _ _ _ _ (Act.put _ (some 17) _) _
  simp only [Act.put, List.setIfInBounds_toArray, List.set_cons_zero, List.set_cons_succ]
  refine wpAnyH_take (i := 6) (v := ?v6) rfl (by kernel_rfl) (by kernel_rfl) (by kernel_rfl) (fun _ _ _ h => h) (Or.inl ⟨by rfl, ?y6⟩) (by assumption) ?r6
  case y6 => (intro W hSw; (try dsimp only at hSw); go_simp <;> with_reducible rfl)
  change wpAnyH _ _ _ _ _ _ _ (Act.put _ (some 18) _) _
  simp only [Act.put, List.setIfInBounds_toArray, List.set_cons_zero, List.set_cons_succ]
  refine wpAnyH_take (i := 7) (v := ?v7) rfl (by kernel_rfl) (by kernel_rfl) (by kernel_rfl) (fun _ _ _ h => h) (Or.inl ⟨by rfl, ?y7⟩) (by assumption) ?r7
  case y7 => (intro W hSw; (try dsimp only at hSw); go_simp <;> with_reducible rfl)
  change wpAnyH _ _ _ _ _ _ _ (Act.put _ (some 19) _) _
  simp only [Act.put, List.setIfInBounds_toArray, List.set_cons_zero, List.set_cons_succ]
  refine wpAnyH_take (i := 8) (v := ?v8) rfl (by kernel_rfl) (by kernel_rfl) (by kernel_rfl) (fun _ _ _ h => h) (Or.inl ⟨by rfl, ?y8⟩) (by assumption) ?r8
  case y8 => (intro W hSw; (try dsimp only at hSw); go_simp <;> with_reducible rfl)
  change wpAnyH _ _ _ _ _ _ _ (Act.put _ (some 20) _) _
  simp only [Act.put, List.setIfInBounds_toArray, List.set_cons_zero, List.set_cons_succ]
  refine wpAnyH_ready (rs := [4]) (by kernel_rfl) (by simp) ?_
  refine AllReadyH.cons rfl (fun K hK => ?_) AllReadyH.nil
  go_simp
  refine hK.out _ _ hHeld (fun _ => ?_)
  clear hK K
  have hsl := HC.out
  refine wpAnyH_take (i := 9) (v := ?v9) rfl (by kernel_rfl) (by kernel_rfl) (by kernel_rfl) (fun _ _ _ h => h) (Or.inl ⟨by rfl, ?y9⟩) (by assumption) ?r9
  case y9 => (intro W hSw; (try dsimp only at hSw); go_simp <;> with_reducible rfl)
  change wpAnyH _ _ _ _ _ _ _ (Act.put _ (some 21) _) _
  simp only [Act.put, List.setIfInBounds_toArray, List.set_cons_zero, List.set_cons_succ]
  clear hsl
  refine wpAnyH_ready (rs := [10]) (by kernel_rfl) (by simp) ?_
  refine AllReadyH.cons rfl (fun K hK => ?_) AllReadyH.nil
  go_simp
  refine HCL.out.mono ?_
  rintro e w2 ⟨v, rfl, hown, hb2⟩
  have hc2 := HCE.out _ hb2
  refine hK.out _ _ hc2 (fun _ => ?_)
  clear hK K hd1 hHeld
  refine wpAnyH_take (i := 11) (v := ?v11) rfl (by kernel_rfl) (by kernel_rfl) (by kernel_rfl) (fun _ _ _ h => h) (Or.inl ⟨by rfl, ?y11⟩) (by assumption) ?r11
  case y11 => (intro W hSw; (try dsimp only at hSw); go_simp <;> with_reducible rfl)
  change wpAnyH _ _ _ _ _ _ _ (Act.put _ (some 23) _) _
  simp only [Act.put, List.setIfInBounds_toArray, List.set_cons_zero, List.set_cons_succ]
  refine wpAnyH_take (i := 12) (v := ?v12) rfl (by kernel_rfl) (by kernel_rfl) (by kernel_rfl) (fun _ _ _ h => h) (Or.inl ⟨by rfl, ?y12⟩) (by assumption) ?r12
  case y12 => (intro W hSw; (try dsimp only at hSw); go_simp <;> with_reducible rfl)
  change wpAnyH _ _ _ _ _ _ _ (Act.put _ (some 24) _) _
  simp only [Act.put, List.setIfInBounds_toArray, List.set_cons_zero, List.set_cons_succ]
  have hB3 := HB2.out.grown (grown_below hb2 none) (by simp)
  have b1 : w2.cell? ⟨L.bl k, 1, none⟩ = some (.slice A nw c) := hB3.cell 1
  have fb : w2.frozen? ⟨L.bl k, 1, none⟩ = false := hB3.free 1
  refine wpAnyH_ready (rs := [13]) (by kernel_rfl) (by simp) ?_
  refine AllReadyH.cons rfl (fun K hK => ?_) AllReadyH.nil
  rw [if_pos (by rfl)]
  refine wp_st1 rfl rfl rfl hB3 (by show 1 < 3; decide) (own_one hown) sizeSl ?_
  intro w3 hB4 hg3
  refine hK.out _ _ (hB4.cell 2) (fun _ => ?_)
  clear hK K b1 fb
  change wpAnyH _ _ _ _ _ _ _ _ _
  refine wpAnyH_done (by kernel_rfl) ?_ _
  go_end0
  have H := HH.out
  have o3 : Off (fun b => b = L.bl k ∨ (L.bv k).ownBlock = some b) w w3 :=
    (((Off.of_grown HG1.out).mono (fun x h => .inl (Option.some.inj h).symm)).trans (Off.of_below hb2) (fun _ h => h.elim)).trans (Off.of_grown hg3) (fun x h => .inl (.inl (Option.some.inj h).symm))
  have hown3 : OwnB w3 w1.heap.size v ((qbody q k).now.take M) := own_off hown (Off.of_grown hg3) (fun b hb e => by
    have h1 := (hown.lt b hb).1
    have h2 := HB2.out.lt
    have := Option.some.inj e
    omega)
  have hl : ∀ b, v.ownBlock = some b → (L.bv k).ownBlock = some b ∨ w.heap.size ≤ b := fun b hb => .inr (Nat.le_trans HG1.out.size (hown.lt b hb).1)
  have H3 := H.setB hk o3 v ((qbody q k).now.take M) M hB4 (own_base hown3 (fun _ _ => Nat.zero_le _)) hl
  exact ⟨rfl, v, rfl, H3, o3.mono (fun x h => .inr (.inr (.inr (.inr (.inr (.inl ⟨k, hk, h⟩)))))), fun b hb => foot_setB (q := q) (x := ⟨(qbody q k).now.take M, M⟩) (l := q.loose) hk v hl hb⟩
end Go.Proofs.YtbodkjifpmencaaGreat
namespace Go.Proofs.YtbodkjifpmencaaGreat
open Go.RowKit
open Go.Lib

/-- A slice that reads as ints. -/
def RI (w : World) (A : Option Addr) (ks : List Int) : Prop :=
  0 < ks.length → ∃ b off, A = some ⟨b, off, none⟩ ∧ b < w.heap.size ∧ ∀ j (h : j < ks.length), w.cell? ⟨b, off + j, none⟩ = some (.int .i64 ks[j])
theorem RI.off {F : Nat → Prop} {w w' : World} {A : Option Addr} {ks : List Int} (h : RI w A ks) (ho : Off F w w') (hF : 0 < ks.length → ∀ b, aBlock A = some b → ¬ F b) : RI w' A ks := fun hz => by
  obtain ⟨b, off, rfl, hb, hc⟩ := h hz
  have := ho.size
  exact ⟨b, off, rfl, by omega, fun j hj => ho.cell (hc j hj) (hF hz b rfl)⟩
theorem cutZ_block (A : Option Addr) (c l s : Nat) (h : ∀ a, A = some a → a.spot = none) : aBlock (cutZ A c l s) = aBlock A := by
  unfold cutZ
  split
  · rfl
  · cases A with
    | none => rfl
    | some a =>
      obtain ⟨b, o, sp⟩ := a
      have := h _ rfl
      simp at this
      subst this
      show aBlock (some (Addr.add ⟨b, o, none⟩ (l * s))) = _
      rw [Addr.add_mid]; rfl
/-- The numbers that are left, in their box. -/
structure Box (kb : Nat) (ks : List Int) (w : World) (P : Nat → Prop) : Prop where
  ex : ∃ A c, Blk kb (.cells #[.slice A ks.length c] 29 (0, 0)) w ∧ RI w A ks ∧ (0 < ks.length → ∀ x, aBlock A = some x → P x ∧ x ≠ kb) ∧ ks.length ≤ c
theorem Box.off {F : Nat → Prop} {kb : Nat} {ks : List Int} {w w' : World} {P : Nat → Prop} (h : Box kb ks w P) (ho : Off F w w') (h1 : ¬ F kb) (h2 : ∀ x, P x → ¬ F x) : Box kb ks w' P := by
  obtain ⟨A, c, hb, hr, hp, hc⟩ := h.ex
  exact ⟨A, c, ho.blk hb h1, hr.off ho (fun hz b hb => h2 b (hp hz b hb).1), hp, hc⟩
def Range (ks : List Int) : Prop := ∀ z ∈ ks, -9223372036854775808 ≤ z ∧ z ≤ 9223372036854775807
set_option maxRecDepth 100000 in
theorem next_any (kb : Nat) (ks : List Int) (w : World) (P : Nat → Prop) (hB : Box kb ks w P) (hR : Range ks) (most : Nat) (hm : most ≤ 1048576) (hl : ks.length ≤ 1048576) :
    Calls Tryz.prog 50 #[.int .i64 (most : Int), .pointer (some ⟨kb, 0, none⟩)] w fun e w' => e = .returned (.int .i64 ((nextQ ks most).1 : Int)) ∧ Box kb (nextQ ks most).2 w' P ∧ Off (fun b => b = kb) w w' := by
  obtain ⟨A, c, hb, hr, hp, hc⟩ := hB.ex
  have c0 : w.cell? ⟨kb, 0, none⟩ = some (.slice A ks.length c) := hb.cell 0
  cases ks with
  | nil =>
    have HB := Lib.hid hB
    have c0' : w.cell? ⟨kb, 0, none⟩ = some (.slice A 0 c) := c0
    clear hB hb hr hp hc c0
    go_enter Tryz.func50, Tryz.ntmps50
    go_wp2
    go_ret
    exact ⟨rfl, HB.out, Off.refl _ _⟩
  | cons z r =>
    obtain ⟨b, off, rfl, hbl, hcs⟩ := hr (by simp)
    have z0 : w.cell? ⟨b, off, none⟩ = some (.int .i64 z) := hcs 0 (by simp)
    have hzr := hR z (by simp)
    obtain ⟨n, hn⟩ : ∃ n, r.length = n := ⟨_, rfl⟩
    have c0' : w.cell? ⟨kb, 0, none⟩ = some (.slice (some ⟨b, off, none⟩) (n + 1) c) := by rw [← hn]; exact c0
    have f0 : w.frozen? ⟨kb, 0, none⟩ = false := hb.free 0
    have hcn : n + 1 ≤ c := by rw [← hn]; exact hc
    have hsl := cut_ints (some ⟨b, off, none⟩) (n + 1) c 1 (by omega)
    have hrest := fun W => rest_any z ((most : Int) + 1) W (by omega) (by omega) hzr.1 hzr.2
    have HREST := Lib.hid hrest
    have HSL := Lib.hid hsl
    have HBK := Lib.hid hb
    have HPP := Lib.hid hp
    have HCS := Lib.hid hcs
    have HN := Lib.hid hn
    have hne : b ≠ kb := (hp (by simp) b rfl).2
    have hnl : n ≤ 1048576 := by rw [← hn]; simp at hl; omega
    have HE := Lib.hid (Int.emod_nonneg z (show (most : Int) + 1 ≠ 0 by omega))
    clear hB hb hr hp hc c0 hcs hR hrest hzr hsl hn
    have hsl : ∀ U, (Instr.slice 29 (.slice (some ⟨b, off, none⟩) (n + 1) c) (some (.int .i64 1)) none none).run Tryz.prog U = .ok (.slice (cutZ (some ⟨b, off, none⟩) c 1 1) n (c - 1)) U := fun U => HSL.out U
    go_enter Tryz.func50, Tryz.ntmps50
    go_wp2_with (go_at_call 51; (with_reducible refine (HREST.out _).mono ?_); rintro e w1 ⟨rfl, rfl⟩)
    go_ret
    have hnx : nextQ (z :: r) most = ((z % ((most : Int) + 1)).toNat, r) := rfl
    rw [hnx]
    have hg := grown_set w kb 0 (.slice (cutZ (some ⟨b, off, none⟩) c 1 1) n (c - 1))
    refine ⟨ret_int (by have := HE.out; show z % ((most : Int) + 1) = _; omega), ⟨cutZ (some ⟨b, off, none⟩) c 1 1, c - 1, ?_, ?_, ?_, by rw [HN.out]; omega⟩, (Off.of_grown hg).mono (fun x h => (Option.some.inj h).symm)⟩
    · rw [HN.out]
      exact HBK.out.set 0 _
    · intro hpos
      have hcut : cutZ (some ⟨b, off, none⟩) c 1 1 = some ⟨b, off + 1, none⟩ := by
        unfold cutZ
        rw [if_neg (by rw [HN.out] at hpos; omega)]
        show some (Addr.add ⟨b, off, none⟩ 1) = _
        rw [Addr.add_mid]
      have hsz := hg.size
      refine ⟨b, off + 1, hcut, by omega, fun j hj => ?_⟩
      have h := HCS.out (j + 1) (by simpa using hj)
      have h2 : w.cell? ⟨b, off + 1 + j, none⟩ = some (.int .i64 r[j]) := by
        rw [show off + 1 + j = off + (j + 1) by omega]
        simpa using h
      exact (Off.of_grown hg).cell h2 (fun e => hne (Option.some.inj e).symm)
    · intro _ x hx
      rw [cutZ_block _ _ _ _ (fun a ha => by cases ha; rfl)] at hx
      exact HPP.out (by simp) x hx
end Go.Proofs.YtbodkjifpmencaaGreat
