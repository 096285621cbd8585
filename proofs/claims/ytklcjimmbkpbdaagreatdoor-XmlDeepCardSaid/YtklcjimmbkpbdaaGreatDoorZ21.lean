/-
  Of the proofs of layer 8 (elements of XML): the parts XCc XCd. No conditions.
-/
import Derived.Test.YtklcjimmbkpbdaaGreatDoorZ20
import Derived.Deep.DeepCutAuto
namespace Go.Proofs.YtklcjimmbkpbdaaGreatDoor
open Go.RowKit
open Go.Lib
def CloO (v : XV) (w : World) (e : Ending) (w' : World) : Prop :=
 (∃ x, e = .returned x ∧ XR w' (fun b => w.heap.size ≤ b ∧ b < w'.heap.size) v x) ∧ Below w.heap.size w w'
def CloC (N : Nat) : Prop := ∀ (T : Nat → Prop) (v : XV) (x : Value) (w : World), wX v ≤ N → XR w T v x → Calls Tryz.prog 44 #[x] w (CloO v w)
theorem cA_take {l : List XA} {k : Nat} (h : k < l.length) : l.take (k + 1) = l.take k ++ [l[k]] := List.take_succ_eq_append_getElem h
theorem s3_one (a b c : Bt) : ∀ u ∈ [sV a, sV b, sV c], u.oneCell' = true := str3_one _ _ _
theorem CloO.of {v : XV} {x : Value} {w w' : World} (h : XR w' (fun b => w.heap.size ≤ b ∧ b < w'.heap.size) v x) (hb : Below w.heap.size w w') : CloO v w (.returned x) w' := ⟨⟨x, rfl, h⟩, hb⟩
set_option maxRecDepth 100000 in
set_option maxHeartbeats 40000000 in
theorem clone_step {N : Nat} (IH : CloC N) (hN : N ≤ 99999) {T : Nat → Prop} {v : XV} {x : Value} {w : World} (hW : wX v ≤ N + 1) (hx : XR w T v x) : Calls Tryz.prog 44 #[x] w (CloO v w) := by
 obtain ⟨sp, nm, al, ks, tx⟩ := v
 obtain ⟨aA, ac, kA, kc, rfl, hR, hK⟩ := XR.attrs hx
 have hwe := wX_eq (.mk sp nm al ks tx)
 simp only [XV.space, XV.name, XV.text, XV.attrs, XV.kids] at hwe
 have hsm : SmallA3 al := wX_attrs (v := .mk sp nm al ks tx) (by omega)
 have hla := wA_len al
 have hlk := wXs_len ks
 have HR := hid hR
 have HK := hid hK
 have HSM := hid hsm
 have HIH := hid IH
 have HWK : Hid (wXs ks ≤ N) := hid (by omega)
 have HC0 := hid (fun V => clone_any sp (by omega) V)
 have HC1 := hid (fun V => clone_any nm (by omega) V)
 have HC4 := hid (fun V => clone_any tx (by omega) V)
 obtain ⟨nA, hnA⟩ : ∃ n, al.length = n := ⟨_, rfl⟩
 obtain ⟨nK, hnK⟩ : ∃ n, ks.length = n := ⟨_, rfl⟩
 have HNA := hid hnA
 have HNK := hid hnK
 have hnAb : nA ≤ 100000 := by omega
 have hnKb : nK ≤ 100000 := by omega
 rw [hnA, hnK]
 obtain ⟨P, hP⟩ : ∃ P, w.heap.size = P := ⟨_, rfl⟩
 have hPb := Blk.new (.cells #[sV sp, sV nm, .slice aA nA ac, .slice kA nK kc, sV tx] TNo) w
 have hb1 := below_alloc8 w (.cells #[sV sp, sV nm, .slice aA nA ac, .slice kA nK kc, sV tx] TNo)
 have hRb := Blk.new ZN (w.alloc (.cells #[sV sp, sV nm, .slice aA nA ac, .slice kA nK kc, sV tx] TNo))
 have hb2 := below_alloc8 (w.alloc (.cells #[sV sp, sV nm, .slice aA nA ac, .slice kA nK kc, sV tx] TNo)) ZN
 have hsz : (w.alloc (.cells #[sV sp, sV nm, .slice aA nA ac, .slice kA nK kc, sV tx] TNo)).heap.size = P + 1 := by simp [hP]
 have hpar : Blk P (.cells #[sV sp, sV nm, .slice aA nA ac, .slice kA nK kc, sV tx] TNo) ((w.alloc (.cells #[sV sp, sV nm, .slice aA nA ac, .slice kA nK kc, sV tx] TNo)).alloc ZN) := by
  have := (Off.of_below hb2).blk hPb (fun h => h)
  rwa [hP] at this
 rw [hsz] at hRb
 have hsince : Below w.heap.size w ((w.alloc (.cells #[sV sp, sV nm, .slice aA nA ac, .slice kA nK kc, sV tx] TNo)).alloc ZN) := hb1.trans (hb2.mono hb1.size)
 have HPAR := hid hpar
 have HRES := hid hRb
 have HSIN := hid hsince
 have HPw : Hid (w.heap.size ≤ P) := hid (Nat.le_of_eq hP)
 clear hR hK hsm hwe hla hlk IH hW hx hPb hb1 hRb hb2 hsz hpar hsince hnA hnK
 go_enter Tryz.func44, Tryz.ntmps44
 go_upto_region 1 with fail
 go_cut [3] (fun s3 wx => ∃ V, s3 = .pointer (some ⟨V, 0, none⟩) ∧ Hid (CLA P (P + 1) V #[sV sp, sV nm, .slice aA nA ac, .slice kA nK kc, sV tx] sp nm tx (.slice none 0 0) (.slice none 0 0) [] (fun _ => False) [] [] w wx))
 case first =>
  have hpar := HPAR.out
  have hres := HRES.out
  have hsin := HSIN.out
  obtain ⟨W1, hW1⟩ : ∃ W, (w.alloc (.cells #[sV sp, sV nm, .slice aA nA ac, .slice kA nK kc, sV tx] TNo)).alloc ZN = W := ⟨_, rfl⟩
  try rw [hW1] at hpar hres hsin
  try rw [hW1]
  have HSS : Hid (∀ W, (Blk P (.cells #[sV sp, sV nm, .slice aA nA ac, .slice kA nK kc, sV tx] TNo) W ∧ Blk (P + 1) ZN W ∧ Below w.heap.size w W) → (fun W => W.cell? ⟨P, 0, none⟩ = some (sV sp) ∧ W.cell? ⟨P, 1, none⟩ = some (sV nm) ∧ W.cell? ⟨P, 4, none⟩ = some (sV tx)) W) := hid (fun W hW => ⟨hW.1.cell 0, hW.1.cell 1, hW.1.cell 4⟩)
  have HBB : Hid (∀ W W', (Blk P (.cells #[sV sp, sV nm, .slice aA nA ac, .slice kA nK kc, sV tx] TNo) W ∧ Blk (P + 1) ZN W ∧ Below w.heap.size w W) → Below W.heap.size W W' → (Blk P (.cells #[sV sp, sV nm, .slice aA nA ac, .slice kA nK kc, sV tx] TNo) W' ∧ Blk (P + 1) ZN W' ∧ Below w.heap.size w W')) := hid (fun W W' h b => ⟨(Off.of_below b).blk h.1 (fun h => h), (Off.of_below b).blk h.2.1 (fun h => h), h.2.2.trans (b.mono h.2.2.size)⟩)
  clear HPAR HRES HSIN hW1
  have I0 : Blk P (.cells #[sV sp, sV nm, .slice aA nA ac, .slice kA nK kc, sV tx] TNo) W1.drew ∧ Blk (P + 1) ZN W1.drew ∧ Below w.heap.size w W1.drew := HBB.out _ _ ⟨hpar, hres, hsin⟩ (below_drewN (Below.refl _ _) 1)
  refine wp_region_held_drew (S := fun W => W.cell? ⟨P, 0, none⟩ = some (sV sp) ∧ W.cell? ⟨P, 1, none⟩ = some (sV nm) ∧ W.cell? ⟨P, 4, none⟩ = some (sV tx)) (by kernel_rfl) (HSS.out _ I0) (fun _ => ?_)
  clear hpar hres hsin
  generalize W1.drew = w0 at *
  clear W1
  refine wpAnyH_take (i := 0) (v := .pointer (some ⟨P, 0, none⟩)) rfl (by kernel_rfl) (by kernel_rfl) (by kernel_rfl) (fun _ _ _ h => h) (Or.inl ⟨by rfl, by intro w hSw; clear hSw; go_simp⟩) (HSS.out _ I0) ?_
  change wpAnyH _ _ _ _ _ _ _ (Act.put _ (some 8) _) _
  try simp only [Act.put, zA8, zB8, zC8]
  refine wpAnyH_take (i := 1) (v := sV sp) rfl (by kernel_rfl) (by kernel_rfl) (by kernel_rfl) (fun _ _ _ h => h) (Or.inl ⟨by rfl, by intro w hSw; (try dsimp only at hSw); go_simp⟩) (HSS.out _ I0) ?_
  change wpAnyH _ _ _ _ _ _ _ (Act.put _ (some 9) _) _
  try simp only [Act.put, zA8, zB8, zC8]
  refine wpAnyH_take (i := 3) (v := .pointer (some ⟨P, 1, none⟩)) rfl (by kernel_rfl) (by kernel_rfl) (by kernel_rfl) (fun _ _ _ h => h) (Or.inl ⟨by rfl, by intro w hSw; clear hSw; go_simp⟩) (HSS.out _ I0) ?_
  change wpAnyH _ _ _ _ _ _ _ (Act.put _ (some 11) _) _
  try simp only [Act.put, zA8, zB8, zC8]
  refine wpAnyH_take (i := 4) (v := sV nm) rfl (by kernel_rfl) (by kernel_rfl) (by kernel_rfl) (fun _ _ _ h => h) (Or.inl ⟨by rfl, by intro w hSw; (try dsimp only at hSw); go_simp⟩) (HSS.out _ I0) ?_
  change wpAnyH _ _ _ _ _ _ _ (Act.put _ (some 12) _) _
  try simp only [Act.put, zA8, zB8, zC8]
  refine wpAnyH_take (i := 6) (v := .pointer (some ⟨P, 4, none⟩)) rfl (by kernel_rfl) (by kernel_rfl) (by kernel_rfl) (fun _ _ _ h => h) (Or.inl ⟨by rfl, by intro w hSw; clear hSw; go_simp⟩) (HSS.out _ I0) ?_
  change wpAnyH _ _ _ _ _ _ _ (Act.put _ (some 14) _) _
  try simp only [Act.put, zA8, zB8, zC8]
  refine wpAnyH_take (i := 7) (v := sV tx) rfl (by kernel_rfl) (by kernel_rfl) (by kernel_rfl) (fun _ _ _ h => h) (Or.inl ⟨by rfl, by intro w hSw; (try dsimp only at hSw); go_simp⟩) (HSS.out _ I0) ?_
  change wpAnyH _ _ _ _ _ _ _ (Act.put _ (some 15) _) _
  try simp only [Act.put, zA8, zB8, zC8]
  refine wpAnyH_ready (rs := [2, 10]) (by kernel_rfl) (by simp) ?_
  refine AllReadyH.cons (o := { dst := some 10, op := .call { callee := .value (.func 45), args := #[.tmp 9], argTypes := _ }, type := _, pos := _, after := _, guard := none }) rfl (fun K0 hK => ?_) ?_
  ·-- 2
   go_simp
   (with_reducible refine (HC0.out _).mono ?_)
   rintro e w1x ⟨rfl, b1x⟩
   have I1x := HBB.out _ _ I0 b1x
   clear b1x
   refine hK.out _ _ (HSS.out _ I1x) (fun _ => ?_)
   clear hK
   try simp only [Act.put, zA8, zB8, zC8]
   refine wpAnyH_ready (rs := [5, 10]) (by kernel_rfl) (by simp) ?_
   refine AllReadyH.cons (o := { dst := some 13, op := .call { callee := .value (.func 45), args := #[.tmp 12], argTypes := _ }, type := _, pos := _, after := _, guard := none }) rfl (fun K0 hK => ?_) ?_
   ·-- 5
    go_simp
    (with_reducible refine (HC1.out _).mono ?_)
    rintro e w2x ⟨rfl, b2x⟩
    have I2x := HBB.out _ _ I1x b2x
    clear b2x
    refine hK.out _ _ (HSS.out _ I2x) (fun _ => ?_)
    clear hK
    try simp only [Act.put, zA8, zB8, zC8]
    refine wpAnyH_ready (rs := [8, 10]) (by kernel_rfl) (by simp) ?_
    refine AllReadyH.cons (o := { dst := some 16, op := .call { callee := .value (.func 45), args := #[.tmp 15], argTypes := _ }, type := _, pos := _, after := _, guard := none }) rfl (fun K0 hK => ?_) ?_
    ·-- 8
     go_simp
     (with_reducible refine (HC4.out _).mono ?_)
     rintro e w3x ⟨rfl, b3x⟩
     have I3x := HBB.out _ _ I2x b3x
     clear b3x
     refine hK.out _ _ (HSS.out _ I3x) (fun _ => ?_)
     clear hK
     try simp only [Act.put, zA8, zB8, zC8]
     refine wpAnyH_take (i := 9) (v := .agg #[sV sp, sV nm, .slice none 0 0, .slice none 0 0, sV tx]) rfl (by kernel_rfl) (by kernel_rfl) (by kernel_rfl) (fun _ _ _ h => h) (Or.inl ⟨by rfl, by intro w hSw; clear hSw; go_simp⟩) (HSS.out _ I3x) ?_
     change wpAnyH _ _ _ _ _ _ _ (Act.put _ (some 17) _) _
     try simp only [Act.put, zA8, zB8, zC8]
     refine wpAnyH_ready (rs := [10]) (by kernel_rfl) (by simp) ?_
     refine AllReadyH.cons (o := { dst := some 3, op := .alloc TNo, type := _, pos := _, after := _, guard := none }) rfl (fun K0 hK => ?_) AllReadyH.nil
     refine step_alN rfl rfl w3x ?_
     have b4x := below_alloc8 w3x ZN
     have HV := Blk.new ZN w3x
     have I4x := HBB.out _ _ I3x b4x
     have hV4 : P + 1 < w3x.heap.size := I3x.2.1.lt
     clear b4x
     refine hK.out _ _ (HSS.out _ I4x) (fun _ => ?_)
     clear hK
     try simp only [Act.put, zA8, zB8, zC8]
     obtain ⟨V4, hVe4⟩ : ∃ V, w3x.heap.size = V := ⟨_, rfl⟩
     rw [hVe4] at HV hV4 ⊢
     generalize w3x.alloc ZN = w4x at *
     refine wpAnyH_ready (rs := [11]) (by kernel_rfl) (by simp) ?_
     refine AllReadyH.cons (o := { dst := none, op := .store TNo (.tmp 3) (.tmp 17), type := _, pos := _, after := _, guard := none }) rfl (fun K0 hK => ?_) AllReadyH.nil
     refine step_st5 rfl 3 17 rfl rfl w4x (b := V4) (k := 0) rfl rfl (blk_there HV) (all5 rfl rfl rfl rfl rfl) ?_
     have o9 := off_sets8 V4 [sV sp, sV nm, .slice none 0 0, .slice none 0 0, sV tx] 0 w4x
     have HB9 := set5_blk (a := sV sp) (b := sV nm) (c := .slice none 0 0) (d := .slice none 0 0) (e := sV tx) HV
     generalize w4x.setCells V4 0 [sV sp, sV nm, .slice none 0 0, .slice none 0 0, sV tx] = w9 at *
     have hw9 : w.heap.size ≤ P := HPw.out
     have I9 : Blk P (.cells #[sV sp, sV nm, .slice aA nA ac, .slice kA nK kc, sV tx] TNo) w9 ∧ Blk (P + 1) ZN w9 ∧ Below w.heap.size w w9 := ⟨o9.blk I4x.1 (fun e => by omega), o9.blk I4x.2.1 (fun e => by omega), ((Off.of_below I4x.2.2).trans o9 (fun b hb => .inr (by omega))).below (fun _ h => h.elim)⟩
     refine hK.out _ _ (HSS.out _ I9) (fun _ => ?_)
     clear hK
     refine wpAnyH_done (by kernel_rfl) ?_ _
     go_wp2
     go_meet
     exact ⟨V4, rfl, hid ⟨I9.1, I9.2.1, MC8.new HB9, I9.2.2, hw9, by omega, by omega, by omega⟩⟩
    refine AllReadyH.cons (o := { dst := some 3, op := .alloc TNo, type := _, pos := _, after := _, guard := none }) rfl (fun K0 hK => ?_) AllReadyH.nil
    refine step_alN rfl rfl w2x ?_
    have b5x := below_alloc8 w2x ZN
    have HV := Blk.new ZN w2x
    have I5x := HBB.out _ _ I2x b5x
    have hV5 : P + 1 < w2x.heap.size := I2x.2.1.lt
    clear b5x
    refine hK.out _ _ (HSS.out _ I5x) (fun _ => ?_)
    clear hK
    try simp only [Act.put, zA8, zB8, zC8]
    obtain ⟨V5, hVe5⟩ : ∃ V, w2x.heap.size = V := ⟨_, rfl⟩
    rw [hVe5] at HV hV5 ⊢
    generalize w2x.alloc ZN = w5x at *
    refine wpAnyH_ready (rs := [8]) (by kernel_rfl) (by simp) ?_
    refine AllReadyH.cons (o := { dst := some 16, op := .call { callee := .value (.func 45), args := #[.tmp 15], argTypes := _ }, type := _, pos := _, after := _, guard := none }) rfl (fun K0 hK => ?_) AllReadyH.nil
    go_simp
    (with_reducible refine (HC4.out _).mono ?_)
    rintro e w6x ⟨rfl, b6x⟩
    have I6x := HBB.out _ _ I5x b6x
    have HV := (Off.of_below b6x).blk HV (fun h => h)
    clear b6x
    refine hK.out _ _ (HSS.out _ I6x) (fun _ => ?_)
    clear hK
    try simp only [Act.put, zA8, zB8, zC8]
    refine wpAnyH_take (i := 9) (v := .agg #[sV sp, sV nm, .slice none 0 0, .slice none 0 0, sV tx]) rfl (by kernel_rfl) (by kernel_rfl) (by kernel_rfl) (fun _ _ _ h => h) (Or.inl ⟨by rfl, by intro w hSw; clear hSw; go_simp⟩) (HSS.out _ I6x) ?_
    change wpAnyH _ _ _ _ _ _ _ (Act.put _ (some 17) _) _
    try simp only [Act.put, zA8, zB8, zC8]
    refine wpAnyH_ready (rs := [11]) (by kernel_rfl) (by simp) ?_
    refine AllReadyH.cons (o := { dst := none, op := .store TNo (.tmp 3) (.tmp 17), type := _, pos := _, after := _, guard := none }) rfl (fun K0 hK => ?_) AllReadyH.nil
    refine step_st5 rfl 3 17 rfl rfl w6x (b := V5) (k := 0) rfl rfl (blk_there HV) (all5 rfl rfl rfl rfl rfl) ?_
    have o9 := off_sets8 V5 [sV sp, sV nm, .slice none 0 0, .slice none 0 0, sV tx] 0 w6x
    have HB9 := set5_blk (a := sV sp) (b := sV nm) (c := .slice none 0 0) (d := .slice none 0 0) (e := sV tx) HV
    generalize w6x.setCells V5 0 [sV sp, sV nm, .slice none 0 0, .slice none 0 0, sV tx] = w9 at *
    have hw9 : w.heap.size ≤ P := HPw.out
    have I9 : Blk P (.cells #[sV sp, sV nm, .slice aA nA ac, .slice kA nK kc, sV tx] TNo) w9 ∧ Blk (P + 1) ZN w9 ∧ Below w.heap.size w w9 := ⟨o9.blk I6x.1 (fun e => by omega), o9.blk I6x.2.1 (fun e => by omega), ((Off.of_below I6x.2.2).trans o9 (fun b hb => .inr (by omega))).below (fun _ h => h.elim)⟩
    refine hK.out _ _ (HSS.out _ I9) (fun _ => ?_)
    clear hK
    refine wpAnyH_done (by kernel_rfl) ?_ _
    go_wp2
    go_meet
    exact ⟨V5, rfl, hid ⟨I9.1, I9.2.1, MC8.new HB9, I9.2.2, hw9, by omega, by omega, by omega⟩⟩
   refine AllReadyH.cons (o := { dst := some 3, op := .alloc TNo, type := _, pos := _, after := _, guard := none }) rfl (fun K0 hK => ?_) AllReadyH.nil
   refine step_alN rfl rfl w1x ?_
   have b7x := below_alloc8 w1x ZN
   have HV := Blk.new ZN w1x
   have I7x := HBB.out _ _ I1x b7x
   have hV7 : P + 1 < w1x.heap.size := I1x.2.1.lt
   clear b7x
   refine hK.out _ _ (HSS.out _ I7x) (fun _ => ?_)
   clear hK
   try simp only [Act.put, zA8, zB8, zC8]
   obtain ⟨V7, hVe7⟩ : ∃ V, w1x.heap.size = V := ⟨_, rfl⟩
   rw [hVe7] at HV hV7 ⊢
   generalize w1x.alloc ZN = w7x at *
   refine wpAnyH_ready (rs := [5]) (by kernel_rfl) (by simp) ?_
   refine AllReadyH.cons (o := { dst := some 13, op := .call { callee := .value (.func 45), args := #[.tmp 12], argTypes := _ }, type := _, pos := _, after := _, guard := none }) rfl (fun K0 hK => ?_) AllReadyH.nil
   go_simp
   (with_reducible refine (HC1.out _).mono ?_)
   rintro e w8x ⟨rfl, b8x⟩
   have I8x := HBB.out _ _ I7x b8x
   have HV := (Off.of_below b8x).blk HV (fun h => h)
   clear b8x
   refine hK.out _ _ (HSS.out _ I8x) (fun _ => ?_)
   clear hK
   try simp only [Act.put, zA8, zB8, zC8]
   refine wpAnyH_ready (rs := [8]) (by kernel_rfl) (by simp) ?_
   refine AllReadyH.cons (o := { dst := some 16, op := .call { callee := .value (.func 45), args := #[.tmp 15], argTypes := _ }, type := _, pos := _, after := _, guard := none }) rfl (fun K0 hK => ?_) AllReadyH.nil
   go_simp
   (with_reducible refine (HC4.out _).mono ?_)
   rintro e w9x ⟨rfl, b9x⟩
   have I9x := HBB.out _ _ I8x b9x
   have HV := (Off.of_below b9x).blk HV (fun h => h)
   clear b9x
   refine hK.out _ _ (HSS.out _ I9x) (fun _ => ?_)
   clear hK
   try simp only [Act.put, zA8, zB8, zC8]
   refine wpAnyH_take (i := 9) (v := .agg #[sV sp, sV nm, .slice none 0 0, .slice none 0 0, sV tx]) rfl (by kernel_rfl) (by kernel_rfl) (by kernel_rfl) (fun _ _ _ h => h) (Or.inl ⟨by rfl, by intro w hSw; clear hSw; go_simp⟩) (HSS.out _ I9x) ?_
   change wpAnyH _ _ _ _ _ _ _ (Act.put _ (some 17) _) _
   try simp only [Act.put, zA8, zB8, zC8]
   refine wpAnyH_ready (rs := [11]) (by kernel_rfl) (by simp) ?_
   refine AllReadyH.cons (o := { dst := none, op := .store TNo (.tmp 3) (.tmp 17), type := _, pos := _, after := _, guard := none }) rfl (fun K0 hK => ?_) AllReadyH.nil
   refine step_st5 rfl 3 17 rfl rfl w9x (b := V7) (k := 0) rfl rfl (blk_there HV) (all5 rfl rfl rfl rfl rfl) ?_
   have o9 := off_sets8 V7 [sV sp, sV nm, .slice none 0 0, .slice none 0 0, sV tx] 0 w9x
   have HB9 := set5_blk (a := sV sp) (b := sV nm) (c := .slice none 0 0) (d := .slice none 0 0) (e := sV tx) HV
   generalize w9x.setCells V7 0 [sV sp, sV nm, .slice none 0 0, .slice none 0 0, sV tx] = w9 at *
   have hw9 : w.heap.size ≤ P := HPw.out
   have I9 : Blk P (.cells #[sV sp, sV nm, .slice aA nA ac, .slice kA nK kc, sV tx] TNo) w9 ∧ Blk (P + 1) ZN w9 ∧ Below w.heap.size w w9 := ⟨o9.blk I9x.1 (fun e => by omega), o9.blk I9x.2.1 (fun e => by omega), ((Off.of_below I9x.2.2).trans o9 (fun b hb => .inr (by omega))).below (fun _ h => h.elim)⟩
   refine hK.out _ _ (HSS.out _ I9) (fun _ => ?_)
   clear hK
   refine wpAnyH_done (by kernel_rfl) ?_ _
   go_wp2
   go_meet
   exact ⟨V7, rfl, hid ⟨I9.1, I9.2.1, MC8.new HB9, I9.2.2, hw9, by omega, by omega, by omega⟩⟩
  refine AllReadyH.cons (o := { dst := some 3, op := .alloc TNo, type := _, pos := _, after := _, guard := none }) rfl (fun K0 hK => ?_) AllReadyH.nil
  refine step_alN rfl rfl w0 ?_
  have b10x := below_alloc8 w0 ZN
  have HV := Blk.new ZN w0
  have I10x := HBB.out _ _ I0 b10x
  have hV10 : P + 1 < w0.heap.size := I0.2.1.lt
  clear b10x
  refine hK.out _ _ (HSS.out _ I10x) (fun _ => ?_)
  clear hK
  try simp only [Act.put, zA8, zB8, zC8]
  obtain ⟨V10, hVe10⟩ : ∃ V, w0.heap.size = V := ⟨_, rfl⟩
  rw [hVe10] at HV hV10 ⊢
  generalize w0.alloc ZN = w10x at *
  refine wpAnyH_ready (rs := [2]) (by kernel_rfl) (by simp) ?_
  refine AllReadyH.cons (o := { dst := some 10, op := .call { callee := .value (.func 45), args := #[.tmp 9], argTypes := _ }, type := _, pos := _, after := _, guard := none }) rfl (fun K0 hK => ?_) AllReadyH.nil
  go_simp
  (with_reducible refine (HC0.out _).mono ?_)
  rintro e w11x ⟨rfl, b11x⟩
  have I11x := HBB.out _ _ I10x b11x
  have HV := (Off.of_below b11x).blk HV (fun h => h)
  clear b11x
  refine hK.out _ _ (HSS.out _ I11x) (fun _ => ?_)
  clear hK
  try simp only [Act.put, zA8, zB8, zC8]
  refine wpAnyH_ready (rs := [5]) (by kernel_rfl) (by simp) ?_
  refine AllReadyH.cons (o := { dst := some 13, op := .call { callee := .value (.func 45), args := #[.tmp 12], argTypes := _ }, type := _, pos := _, after := _, guard := none }) rfl (fun K0 hK => ?_) AllReadyH.nil
  go_simp
  (with_reducible refine (HC1.out _).mono ?_)
  rintro e w12x ⟨rfl, b12x⟩
  have I12x := HBB.out _ _ I11x b12x
  have HV := (Off.of_below b12x).blk HV (fun h => h)
  clear b12x
  refine hK.out _ _ (HSS.out _ I12x) (fun _ => ?_)
  clear hK
  try simp only [Act.put, zA8, zB8, zC8]
  refine wpAnyH_ready (rs := [8]) (by kernel_rfl) (by simp) ?_
  refine AllReadyH.cons (o := { dst := some 16, op := .call { callee := .value (.func 45), args := #[.tmp 15], argTypes := _ }, type := _, pos := _, after := _, guard := none }) rfl (fun K0 hK => ?_) AllReadyH.nil
  go_simp
  (with_reducible refine (HC4.out _).mono ?_)
  rintro e w13x ⟨rfl, b13x⟩
  have I13x := HBB.out _ _ I12x b13x
  have HV := (Off.of_below b13x).blk HV (fun h => h)
  clear b13x
  refine hK.out _ _ (HSS.out _ I13x) (fun _ => ?_)
  clear hK
  try simp only [Act.put, zA8, zB8, zC8]
  refine wpAnyH_take (i := 9) (v := .agg #[sV sp, sV nm, .slice none 0 0, .slice none 0 0, sV tx]) rfl (by kernel_rfl) (by kernel_rfl) (by kernel_rfl) (fun _ _ _ h => h) (Or.inl ⟨by rfl, by intro w hSw; clear hSw; go_simp⟩) (HSS.out _ I13x) ?_
  change wpAnyH _ _ _ _ _ _ _ (Act.put _ (some 17) _) _
  try simp only [Act.put, zA8, zB8, zC8]
  refine wpAnyH_ready (rs := [11]) (by kernel_rfl) (by simp) ?_
  refine AllReadyH.cons (o := { dst := none, op := .store TNo (.tmp 3) (.tmp 17), type := _, pos := _, after := _, guard := none }) rfl (fun K0 hK => ?_) AllReadyH.nil
  refine step_st5 rfl 3 17 rfl rfl w13x (b := V10) (k := 0) rfl rfl (blk_there HV) (all5 rfl rfl rfl rfl rfl) ?_
  have o9 := off_sets8 V10 [sV sp, sV nm, .slice none 0 0, .slice none 0 0, sV tx] 0 w13x
  have HB9 := set5_blk (a := sV sp) (b := sV nm) (c := .slice none 0 0) (d := .slice none 0 0) (e := sV tx) HV
  generalize w13x.setCells V10 0 [sV sp, sV nm, .slice none 0 0, .slice none 0 0, sV tx] = w9 at *
  have hw9 : w.heap.size ≤ P := HPw.out
  have I9 : Blk P (.cells #[sV sp, sV nm, .slice aA nA ac, .slice kA nK kc, sV tx] TNo) w9 ∧ Blk (P + 1) ZN w9 ∧ Below w.heap.size w w9 := ⟨o9.blk I13x.1 (fun e => by omega), o9.blk I13x.2.1 (fun e => by omega), ((Off.of_below I13x.2.2).trans o9 (fun b hb => .inr (by omega))).below (fun _ h => h.elim)⟩
  refine hK.out _ _ (HSS.out _ I9) (fun _ => ?_)
  clear hK
  refine wpAnyH_done (by kernel_rfl) ?_ _
  go_wp2
  go_meet
  exact ⟨V10, rfl, hid ⟨I9.1, I9.2.1, MC8.new HB9, I9.2.2, hw9, by omega, by omega, by omega⟩⟩
 case rest =>
  clear HPAR HRES HSIN HC0 HC1 HC4
  obtain ⟨V, rfl, HCL⟩ := hcut
  have hc := HCL.out
  have p2 := hc.par.cell 2
  clear hc
  go_wp2
  clear p2
  obtain ⟨src, hsrc⟩ : ∃ s, #[sV sp, sV nm, .slice aA nA ac, .slice kA nK kc, sV tx] = s := ⟨_, rfl⟩
  rw [hsrc] at HCL
  have HSRC := hid hsrc
  clear hsrc
  go_loopw [21] (fun i wr => ∃ k : Nat, k ≤ nA ∧ i = .int .i64 k ∧ Hid (∃ av, CLA P (P + 1) V src sp nm tx av (.slice none 0 0) [] (fun _ => False) (al.take k) [] w wr)) (fun i _ => nA - (RowKit.intOf i).toNat)
  case atStart => exact ⟨0, Nat.zero_le _, rfl, hid ⟨_, HCL.out⟩⟩
  case round =>
   clear HCL
   obtain ⟨k, hk, rfl, HSE⟩ := hrel
   obtain ⟨av, hC⟩ := HSE.out
   clear HSE
   by_cases hlt : k < nA
   ·have hkl : k < al.length := by rw [HNA.out]; exact hlt
    obtain ⟨bb, off, hAe, hT, hbl, hcl⟩ := HR.out (by rw [cA_len]; omega)
    obtain ⟨c0, c1, c2⟩ := RC.a3 hcl k hkl
    have hsa := HSM.out _ (List.getElem_mem hkl)
    have HTK := hid (cA_take hkl)
    obtain ⟨a, ha⟩ : ∃ a, al[k] = a := ⟨_, rfl⟩
    rw [ha] at c0 c1 c2 hsa HTK
    have hb := hC.since
    have y0 := (hb.cell (p := ⟨bb, off + k * 3, none⟩) hbl).trans c0
    have y1 := (hb.cell (p := ⟨bb, off + k * 3 + 1, none⟩) hbl).trans c1
    have y2 := (hb.cell (p := ⟨bb, off + k * 3 + 2, none⟩) hbl).trans c2
    subst hAe
    obtain ⟨⟨asp, anm, avl⟩, rfl⟩ : ∃ x : XA, a = x := ⟨_, rfl⟩
    simp only at y0 y1 y2 hsa HTK
    have HA0 := hid (fun V => clone_any asp (by omega) V)
    have HA1 := hid (fun V => clone_any anm (by omega) V)
    have HA2 := hid (fun V => clone_any avl (by omega) V)
    obtain ⟨pr, hpr⟩ : ∃ l, al.take k = l := ⟨_, rfl⟩
    rw [hpr] at hC HTK
    have hprl : pr.length = k := by rw [← hpr, List.length_take]; omega
    obtain ⟨avA, avc, rfl⟩ := hC.mc.aForm
    rw [hprl] at hC
    have HPL := hid hprl
    have hB1 := below_alloc8 wr (.cells #[sV asp, sV anm, sV avl] TA3 (0, 0))
    obtain ⟨Z, hZ⟩ : ∃ Z, wr.heap.size = Z := ⟨_, rfl⟩
    have hZB : Blk Z (.cells #[sV asp, sV anm, sV avl] TA3 (0, 0)) (wr.alloc (.cells #[sV asp, sV anm, sV avl] TA3 (0, 0))) := by have := Blk.new (.cells #[sV asp, sV anm, sV avl] TA3 (0, 0)) wr; rwa [hZ] at this
    have hZne : Value.ownBlock (.slice avA k avc) ≠ some Z := fun e => by have := hC.mc.ha e; omega
    have HI := hid (And.intro hZB (hC.below hB1))
    clear c0 c1 c2 hcl ha hb hB1 hZB hsa hpr hprl hC
    go_wp2
    rw [hZ] at *
    have J0 := HI.out
    obtain ⟨W1, hW1⟩ : ∃ W, wr.alloc (.cells #[sV asp, sV anm, sV avl] TA3) = W := ⟨_, rfl⟩
    rw [hW1] at J0 ⊢
    have HSS : Hid (∀ W, (Blk Z (.cells #[sV asp, sV anm, sV avl] TA3 (0, 0)) W ∧ CLA P (P + 1) V src sp nm tx (.slice avA k avc) (.slice none 0 0) [] (fun _ => False) pr [] w W) → (fun W => W.cell? ⟨Z, 0, none⟩ = some (sV asp) ∧ W.cell? ⟨Z, 1, none⟩ = some (sV anm) ∧ W.cell? ⟨Z, 2, none⟩ = some (sV avl)) W) := hid (fun W hW => ⟨hW.1.cell 0, hW.1.cell 1, hW.1.cell 2⟩)
    have HBB : Hid (∀ W W', (Blk Z (.cells #[sV asp, sV anm, sV avl] TA3 (0, 0)) W ∧ CLA P (P + 1) V src sp nm tx (.slice avA k avc) (.slice none 0 0) [] (fun _ => False) pr [] w W) → Below W.heap.size W W' → (Blk Z (.cells #[sV asp, sV anm, sV avl] TA3 (0, 0)) W' ∧ CLA P (P + 1) V src sp nm tx (.slice avA k avc) (.slice none 0 0) [] (fun _ => False) pr [] w W')) := hid (fun W W' h b => ⟨(Off.of_below b).blk h.1 (fun h => h), h.2.below b⟩)
    have I0 := HBB.out _ W1.drew J0 (below_drewN (Below.refl _ _) 1)
    clear HI hW1 J0
    refine wp_region_held_drew (S := fun W => W.cell? ⟨Z, 0, none⟩ = some (sV asp) ∧ W.cell? ⟨Z, 1, none⟩ = some (sV anm) ∧ W.cell? ⟨Z, 2, none⟩ = some (sV avl)) (by kernel_rfl) (HSS.out _ I0) (fun _ => ?_)
    generalize W1.drew = w0 at *
    clear W1
    refine wpAnyH_take (i := 0) (v := .pointer (some ⟨V, 2, none⟩)) rfl (by kernel_rfl) (by kernel_rfl) (by kernel_rfl) (fun _ _ _ h => h) (Or.inl ⟨by rfl, by intro w hSw; clear hSw; go_simp⟩) (HSS.out _ I0) ?_
    change wpAnyH _ _ _ _ _ _ _ (Act.put _ (some 25) _) _
    try simp only [Act.put, zA8, zB8, zC8]
    refine wpAnyH_take (i := 2) (v := .pointer (some ⟨Z, 0, none⟩)) rfl (by kernel_rfl) (by kernel_rfl) (by kernel_rfl) (fun _ _ _ h => h) (Or.inl ⟨by rfl, by intro w hSw; clear hSw; go_simp⟩) (HSS.out _ I0) ?_
    change wpAnyH _ _ _ _ _ _ _ (Act.put _ (some 27) _) _
    try simp only [Act.put, zA8, zB8, zC8]
    refine wpAnyH_take (i := 3) (v := sV asp) rfl (by kernel_rfl) (by kernel_rfl) (by kernel_rfl) (fun _ _ _ h => h) (Or.inl ⟨by rfl, by intro w hSw; (try dsimp only at hSw); go_simp⟩) (HSS.out _ I0) ?_
    change wpAnyH _ _ _ _ _ _ _ (Act.put _ (some 28) _) _
    try simp only [Act.put, zA8, zB8, zC8]
    refine wpAnyH_take (i := 5) (v := .pointer (some ⟨Z, 1, none⟩)) rfl (by kernel_rfl) (by kernel_rfl) (by kernel_rfl) (fun _ _ _ h => h) (Or.inl ⟨by rfl, by intro w hSw; clear hSw; go_simp⟩) (HSS.out _ I0) ?_
    change wpAnyH _ _ _ _ _ _ _ (Act.put _ (some 30) _) _
    try simp only [Act.put, zA8, zB8, zC8]
    refine wpAnyH_take (i := 6) (v := sV anm) rfl (by kernel_rfl) (by kernel_rfl) (by kernel_rfl) (fun _ _ _ h => h) (Or.inl ⟨by rfl, by intro w hSw; (try dsimp only at hSw); go_simp⟩) (HSS.out _ I0) ?_
    change wpAnyH _ _ _ _ _ _ _ (Act.put _ (some 31) _) _
    try simp only [Act.put, zA8, zB8, zC8]
    refine wpAnyH_take (i := 8) (v := .pointer (some ⟨Z, 2, none⟩)) rfl (by kernel_rfl) (by kernel_rfl) (by kernel_rfl) (fun _ _ _ h => h) (Or.inl ⟨by rfl, by intro w hSw; clear hSw; go_simp⟩) (HSS.out _ I0) ?_
    change wpAnyH _ _ _ _ _ _ _ (Act.put _ (some 33) _) _
    try simp only [Act.put, zA8, zB8, zC8]
    refine wpAnyH_take (i := 9) (v := sV avl) rfl (by kernel_rfl) (by kernel_rfl) (by kernel_rfl) (fun _ _ _ h => h) (Or.inl ⟨by rfl, by intro w hSw; (try dsimp only at hSw); go_simp⟩) (HSS.out _ I0) ?_
    change wpAnyH _ _ _ _ _ _ _ (Act.put _ (some 34) _) _
    try simp only [Act.put, zA8, zB8, zC8]
    refine wpAnyH_ready (rs := [1, 4]) (by kernel_rfl) (by simp) ?_
    refine AllReadyH.cons (o := { dst := some 26, op := .load 24 (.tmp 25), type := _, pos := _, after := _, guard := none }) rfl (fun K0 hK => ?_) ?_
    ·-- 1
     refine step_ldA rfl 25 _ (.inl rfl) rfl w0 (b := V) (k := 2) rfl (I0.2.mc.blk.cell 2) ⟨_, _, _, rfl⟩ ?_
     refine hK.out _ _ (HSS.out _ I0) (fun _ => ?_)
     clear hK
     try simp only [Act.put, zA8, zB8, zC8]
     refine wpAnyH_ready (rs := [4]) (by kernel_rfl) (by simp) ?_
     refine AllReadyH.cons (o := { dst := some 29, op := .call { callee := .value (.func 45), args := #[.tmp 28], argTypes := _ }, type := _, pos := _, after := _, guard := none }) rfl (fun K0 hK => ?_) AllReadyH.nil
     go_simp
     (with_reducible refine (HA0.out _).mono ?_)
     rintro e w15x ⟨rfl, b15x⟩
     have I15x := HBB.out _ _ I0 b15x
     clear b15x
     refine hK.out _ _ (HSS.out _ I15x) (fun _ => ?_)
     clear hK
     try simp only [Act.put, zA8, zB8, zC8]
     refine wpAnyH_ready (rs := [7]) (by kernel_rfl) (by simp) ?_
     refine AllReadyH.cons (o := { dst := some 32, op := .call { callee := .value (.func 45), args := #[.tmp 31], argTypes := _ }, type := _, pos := _, after := _, guard := none }) rfl (fun K0 hK => ?_) AllReadyH.nil
     go_simp
     (with_reducible refine (HA1.out _).mono ?_)
     rintro e w16x ⟨rfl, b16x⟩
     have I16x := HBB.out _ _ I15x b16x
     clear b16x
     refine hK.out _ _ (HSS.out _ I16x) (fun _ => ?_)
     clear hK
     try simp only [Act.put, zA8, zB8, zC8]
     refine wpAnyH_ready (rs := [10]) (by kernel_rfl) (by simp) ?_
     refine AllReadyH.cons (o := { dst := some 35, op := .call { callee := .value (.func 45), args := #[.tmp 34], argTypes := _ }, type := _, pos := _, after := _, guard := none }) rfl (fun K0 hK => ?_) AllReadyH.nil
     go_simp
     (with_reducible refine (HA2.out _).mono ?_)
     rintro e w17x ⟨rfl, b17x⟩
     have I17x := HBB.out _ _ I16x b17x
     clear b17x
     refine hK.out _ _ (HSS.out _ I17x) (fun _ => ?_)
     clear hK
     try simp only [Act.put, zA8, zB8, zC8]
     refine wpAnyH_take (i := 11) (v := .agg #[sV asp, sV anm, sV avl]) rfl (by kernel_rfl) (by kernel_rfl) (by kernel_rfl) (fun _ _ _ h => h) (Or.inl ⟨by rfl, by intro w hSw; clear hSw; go_simp⟩) (HSS.out _ I17x) ?_
     change wpAnyH _ _ _ _ _ _ _ (Act.put _ (some 36) _) _
     try simp only [Act.put, zA8, zB8, zC8]
     refine wpAnyH_ready (rs := [12]) (by kernel_rfl) (by simp) ?_
     refine AllReadyH.cons (o := { dst := some 37, op := .buildSlice 24 1 #[(0, .tmp 36)], type := _, pos := _, after := _, guard := none }) rfl (fun K0 hK => ?_) AllReadyH.nil
     refine step_bs3 rfl 36 rfl w17x (x0 := sV asp) (x1 := sV anm) (x2 := sV avl) rfl ?_
     have b18x := below_alloc8 w17x (.cells #[sV asp, sV anm, sV avl] TA3 (0, 0))
     have HH := Blk.new (.cells #[sV asp, sV anm, sV avl] TA3 (0, 0)) w17x
     have I18x := HBB.out _ _ I17x b18x
     clear b18x
     refine hK.out _ _ (HSS.out _ I18x) (fun _ => ?_)
     clear hK
     try simp only [Act.put, zA8, zB8, zC8]
     obtain ⟨H18, hHe18⟩ : ∃ V, w17x.heap.size = V := ⟨_, rfl⟩
     rw [hHe18] at HH ⊢
     generalize w17x.alloc (.cells #[sV asp, sV anm, sV avl] TA3 (0, 0)) = w18x at *
     obtain ⟨i0, hi, hz0, hz1, hz2⟩ := info_parts Tryz.info8A
     refine wpAnyH_ready (rs := [13]) (by kernel_rfl) (by simp) ?_
     refine AllReadyH.cons (o := { dst := some 38, op := .call { callee := .builtin .append, args := #[.tmp 26, .tmp 37], argTypes := #[24, 24] }, type := _, pos := _, after := _, guard := none }) rfl (fun K0 hK => ?_) AllReadyH.nil
     have hvl := I18x.2.mc.blk.lt
     have hown : w18x.ownsRow (V + 1) TA3 3 (.slice avA k avc) k (cA pr) := by have := I18x.2.mc.attrs; rwa [HPL.out] at this
     refine step_append_lies w18x rfl (.tmp 26) (.tmp 37) 24 rfl (V + 1) TA3 i0 _ 3 48 Tryz.underlying24 hi hz0 hz1 hz2 rfl (by decide) (.slice avA k avc) k (cA pr) rfl hown ⟨H18, 0, none⟩ 1 1 [sV asp, sV anm, sV avl] rfl rfl (World.news_of_block HH) (s3_one asp anm avl) (by decide) (by unfold maxLen; omega) (by omega) hvl w18x.heap.size rfl ?_
     intro g cap w7 L7 gr7 at7 lt7
     have o7 := Off.of_grown gr7
     have hat : Value.ownBlock (.slice avA k avc) = some g ∨ w18x.heap.size ≤ g := at7.imp id (fun h => by omega)
     have hZB7 := o7.blk I18x.1 (fun e => hZne e)
     have hB7 := o7.blk I18x.2.mc.blk (fun e => by have := I18x.2.mc.ha e; omega)
     refine hK.out _ _ ⟨hZB7.cell 0, hZB7.cell 1, hZB7.cell 2⟩ (fun _ => ?_)
     clear hK
     try simp only [Act.put, zA8, zB8, zC8]
     refine wpAnyH_take (i := 14) (v := .pointer (some ⟨V, 2, none⟩)) rfl (by kernel_rfl) (by kernel_rfl) (by kernel_rfl) (fun _ _ _ h => h) (Or.inl ⟨by rfl, by intro w hSw; clear hSw; go_simp⟩) ⟨hZB7.cell 0, hZB7.cell 1, hZB7.cell 2⟩ ?_
     change wpAnyH _ _ _ _ _ _ _ (Act.put _ (some 39) _) _
     try simp only [Act.put, zA8, zB8, zC8]
     refine wpAnyH_ready (rs := [15]) (by kernel_rfl) (by simp) ?_
     refine AllReadyH.cons (o := { dst := none, op := .store 24 (.tmp 39) (.tmp 38), type := _, pos := _, after := _, guard := none }) rfl (fun K0 hK => ?_) AllReadyH.nil
     refine step_stA rfl 39 38 rfl rfl w7 (b := V) (k := 2) (v := .slice (some ⟨g, 0, none⟩) (k + 1) cap) rfl rfl (hB7.cell 2) (hB7.free 2) ⟨_, _, _, rfl⟩ ?_
     obtain ⟨M8, o8⟩ := MC8.pushA (a := (asp, anm, avl)) (g := g) (cap := cap) I18x.2.mc (by rw [HPL.out]; exact L7) o7 hat
     rw [HPL.out] at M8 o8
     have C8 := I18x.2.off M8 o8
     have hZV : V ≠ Z := fun e => by have h1 := I18x.1; have h2 := I18x.2.mc.blk; rw [e] at h2; have := h1.symm.trans h2; cases this
     have hZB8 := (off_set8 w7 V 2 (.slice (some ⟨g, 0, none⟩) (k + 1) cap)).blk hZB7 (fun e => hZV e.symm)
     refine hK.out _ _ ⟨hZB8.cell 0, hZB8.cell 1, hZB8.cell 2⟩ (fun _ => ?_)
     clear hK
     rw [← HTK.out] at C8
     have HC8 := hid C8
     generalize w7.setCell ⟨V, 2, none⟩ (.slice (some ⟨g, 0, none⟩) (k + 1) cap) = w8 at *
     refine wpAnyH_done (by kernel_rfl) ?_ _
     clear C8 M8 o8 hZB8 hZB7 hB7 o7 hat L7 gr7 at7 lt7
     go_wp2
     go_roundw
     case rel => exact ⟨k + 1, by omega, by go_num, hid ⟨_, HC8.out⟩⟩
     case measure => simp [RowKit.intOf]; omega
    refine AllReadyH.cons (o := { dst := some 29, op := .call { callee := .value (.func 45), args := #[.tmp 28], argTypes := _ }, type := _, pos := _, after := _, guard := none }) rfl (fun K0 hK => ?_) AllReadyH.nil
    go_simp
    (with_reducible refine (HA0.out _).mono ?_)
    rintro e w19x ⟨rfl, b19x⟩
    have I19x := HBB.out _ _ I0 b19x
    clear b19x
    refine hK.out _ _ (HSS.out _ I19x) (fun _ => ?_)
    clear hK
    try simp only [Act.put, zA8, zB8, zC8]
    refine wpAnyH_ready (rs := [1, 7]) (by kernel_rfl) (by simp) ?_
    refine AllReadyH.cons (o := { dst := some 26, op := .load 24 (.tmp 25), type := _, pos := _, after := _, guard := none }) rfl (fun K0 hK => ?_) ?_
    ·-- 1
     refine step_ldA rfl 25 _ (.inl rfl) rfl w19x (b := V) (k := 2) rfl (I19x.2.mc.blk.cell 2) ⟨_, _, _, rfl⟩ ?_
     refine hK.out _ _ (HSS.out _ I19x) (fun _ => ?_)
     clear hK
     try simp only [Act.put, zA8, zB8, zC8]
     refine wpAnyH_ready (rs := [7]) (by kernel_rfl) (by simp) ?_
     refine AllReadyH.cons (o := { dst := some 32, op := .call { callee := .value (.func 45), args := #[.tmp 31], argTypes := _ }, type := _, pos := _, after := _, guard := none }) rfl (fun K0 hK => ?_) AllReadyH.nil
     go_simp
     (with_reducible refine (HA1.out _).mono ?_)
     rintro e w21x ⟨rfl, b21x⟩
     have I21x := HBB.out _ _ I19x b21x
     clear b21x
     refine hK.out _ _ (HSS.out _ I21x) (fun _ => ?_)
     clear hK
     try simp only [Act.put, zA8, zB8, zC8]
     refine wpAnyH_ready (rs := [10]) (by kernel_rfl) (by simp) ?_
     refine AllReadyH.cons (o := { dst := some 35, op := .call { callee := .value (.func 45), args := #[.tmp 34], argTypes := _ }, type := _, pos := _, after := _, guard := none }) rfl (fun K0 hK => ?_) AllReadyH.nil
     go_simp
     (with_reducible refine (HA2.out _).mono ?_)
     rintro e w22x ⟨rfl, b22x⟩
     have I22x := HBB.out _ _ I21x b22x
     clear b22x
     refine hK.out _ _ (HSS.out _ I22x) (fun _ => ?_)
     clear hK
     try simp only [Act.put, zA8, zB8, zC8]
     refine wpAnyH_take (i := 11) (v := .agg #[sV asp, sV anm, sV avl]) rfl (by kernel_rfl) (by kernel_rfl) (by kernel_rfl) (fun _ _ _ h => h) (Or.inl ⟨by rfl, by intro w hSw; clear hSw; go_simp⟩) (HSS.out _ I22x) ?_
     change wpAnyH _ _ _ _ _ _ _ (Act.put _ (some 36) _) _
     try simp only [Act.put, zA8, zB8, zC8]
     refine wpAnyH_ready (rs := [12]) (by kernel_rfl) (by simp) ?_
     refine AllReadyH.cons (o := { dst := some 37, op := .buildSlice 24 1 #[(0, .tmp 36)], type := _, pos := _, after := _, guard := none }) rfl (fun K0 hK => ?_) AllReadyH.nil
     refine step_bs3 rfl 36 rfl w22x (x0 := sV asp) (x1 := sV anm) (x2 := sV avl) rfl ?_
     have b23x := below_alloc8 w22x (.cells #[sV asp, sV anm, sV avl] TA3 (0, 0))
     have HH := Blk.new (.cells #[sV asp, sV anm, sV avl] TA3 (0, 0)) w22x
     have I23x := HBB.out _ _ I22x b23x
     clear b23x
     refine hK.out _ _ (HSS.out _ I23x) (fun _ => ?_)
     clear hK
     try simp only [Act.put, zA8, zB8, zC8]
     obtain ⟨H23, hHe23⟩ : ∃ V, w22x.heap.size = V := ⟨_, rfl⟩
     rw [hHe23] at HH ⊢
     generalize w22x.alloc (.cells #[sV asp, sV anm, sV avl] TA3 (0, 0)) = w23x at *
     obtain ⟨i0, hi, hz0, hz1, hz2⟩ := info_parts Tryz.info8A
     refine wpAnyH_ready (rs := [13]) (by kernel_rfl) (by simp) ?_
     refine AllReadyH.cons (o := { dst := some 38, op := .call { callee := .builtin .append, args := #[.tmp 26, .tmp 37], argTypes := #[24, 24] }, type := _, pos := _, after := _, guard := none }) rfl (fun K0 hK => ?_) AllReadyH.nil
     have hvl := I23x.2.mc.blk.lt
     have hown : w23x.ownsRow (V + 1) TA3 3 (.slice avA k avc) k (cA pr) := by have := I23x.2.mc.attrs; rwa [HPL.out] at this
     refine step_append_lies w23x rfl (.tmp 26) (.tmp 37) 24 rfl (V + 1) TA3 i0 _ 3 48 Tryz.underlying24 hi hz0 hz1 hz2 rfl (by decide) (.slice avA k avc) k (cA pr) rfl hown ⟨H23, 0, none⟩ 1 1 [sV asp, sV anm, sV avl] rfl rfl (World.news_of_block HH) (s3_one asp anm avl) (by decide) (by unfold maxLen; omega) (by omega) hvl w23x.heap.size rfl ?_
     intro g cap w7 L7 gr7 at7 lt7
     have o7 := Off.of_grown gr7
     have hat : Value.ownBlock (.slice avA k avc) = some g ∨ w23x.heap.size ≤ g := at7.imp id (fun h => by omega)
     have hZB7 := o7.blk I23x.1 (fun e => hZne e)
     have hB7 := o7.blk I23x.2.mc.blk (fun e => by have := I23x.2.mc.ha e; omega)
     refine hK.out _ _ ⟨hZB7.cell 0, hZB7.cell 1, hZB7.cell 2⟩ (fun _ => ?_)
     clear hK
     try simp only [Act.put, zA8, zB8, zC8]
     refine wpAnyH_take (i := 14) (v := .pointer (some ⟨V, 2, none⟩)) rfl (by kernel_rfl) (by kernel_rfl) (by kernel_rfl) (fun _ _ _ h => h) (Or.inl ⟨by rfl, by intro w hSw; clear hSw; go_simp⟩) ⟨hZB7.cell 0, hZB7.cell 1, hZB7.cell 2⟩ ?_
     change wpAnyH _ _ _ _ _ _ _ (Act.put _ (some 39) _) _
     try simp only [Act.put, zA8, zB8, zC8]
     refine wpAnyH_ready (rs := [15]) (by kernel_rfl) (by simp) ?_
     refine AllReadyH.cons (o := { dst := none, op := .store 24 (.tmp 39) (.tmp 38), type := _, pos := _, after := _, guard := none }) rfl (fun K0 hK => ?_) AllReadyH.nil
     refine step_stA rfl 39 38 rfl rfl w7 (b := V) (k := 2) (v := .slice (some ⟨g, 0, none⟩) (k + 1) cap) rfl rfl (hB7.cell 2) (hB7.free 2) ⟨_, _, _, rfl⟩ ?_
     obtain ⟨M8, o8⟩ := MC8.pushA (a := (asp, anm, avl)) (g := g) (cap := cap) I23x.2.mc (by rw [HPL.out]; exact L7) o7 hat
     rw [HPL.out] at M8 o8
     have C8 := I23x.2.off M8 o8
     have hZV : V ≠ Z := fun e => by have h1 := I23x.1; have h2 := I23x.2.mc.blk; rw [e] at h2; have := h1.symm.trans h2; cases this
     have hZB8 := (off_set8 w7 V 2 (.slice (some ⟨g, 0, none⟩) (k + 1) cap)).blk hZB7 (fun e => hZV e.symm)
     refine hK.out _ _ ⟨hZB8.cell 0, hZB8.cell 1, hZB8.cell 2⟩ (fun _ => ?_)
     clear hK
     rw [← HTK.out] at C8
     have HC8 := hid C8
     generalize w7.setCell ⟨V, 2, none⟩ (.slice (some ⟨g, 0, none⟩) (k + 1) cap) = w8 at *
     refine wpAnyH_done (by kernel_rfl) ?_ _
     clear C8 M8 o8 hZB8 hZB7 hB7 o7 hat L7 gr7 at7 lt7
     go_wp2
     go_roundw
     case rel => exact ⟨k + 1, by omega, by go_num, hid ⟨_, HC8.out⟩⟩
     case measure => simp [RowKit.intOf]; omega
    refine AllReadyH.cons (o := { dst := some 32, op := .call { callee := .value (.func 45), args := #[.tmp 31], argTypes := _ }, type := _, pos := _, after := _, guard := none }) rfl (fun K0 hK => ?_) AllReadyH.nil
    go_simp
    (with_reducible refine (HA1.out _).mono ?_)
    rintro e w24x ⟨rfl, b24x⟩
    have I24x := HBB.out _ _ I19x b24x
    clear b24x
    refine hK.out _ _ (HSS.out _ I24x) (fun _ => ?_)
    clear hK
    try simp only [Act.put, zA8, zB8, zC8]
    refine wpAnyH_ready (rs := [1, 10]) (by kernel_rfl) (by simp) ?_
    refine AllReadyH.cons (o := { dst := some 26, op := .load 24 (.tmp 25), type := _, pos := _, after := _, guard := none }) rfl (fun K0 hK => ?_) ?_
    ·-- 1
     refine step_ldA rfl 25 _ (.inl rfl) rfl w24x (b := V) (k := 2) rfl (I24x.2.mc.blk.cell 2) ⟨_, _, _, rfl⟩ ?_
     refine hK.out _ _ (HSS.out _ I24x) (fun _ => ?_)
     clear hK
     try simp only [Act.put, zA8, zB8, zC8]
     refine wpAnyH_ready (rs := [10]) (by kernel_rfl) (by simp) ?_
     refine AllReadyH.cons (o := { dst := some 35, op := .call { callee := .value (.func 45), args := #[.tmp 34], argTypes := _ }, type := _, pos := _, after := _, guard := none }) rfl (fun K0 hK => ?_) AllReadyH.nil
     go_simp
     (with_reducible refine (HA2.out _).mono ?_)
     rintro e w26x ⟨rfl, b26x⟩
     have I26x := HBB.out _ _ I24x b26x
     clear b26x
     refine hK.out _ _ (HSS.out _ I26x) (fun _ => ?_)
     clear hK
     try simp only [Act.put, zA8, zB8, zC8]
     refine wpAnyH_take (i := 11) (v := .agg #[sV asp, sV anm, sV avl]) rfl (by kernel_rfl) (by kernel_rfl) (by kernel_rfl) (fun _ _ _ h => h) (Or.inl ⟨by rfl, by intro w hSw; clear hSw; go_simp⟩) (HSS.out _ I26x) ?_
     change wpAnyH _ _ _ _ _ _ _ (Act.put _ (some 36) _) _
     try simp only [Act.put, zA8, zB8, zC8]
     refine wpAnyH_ready (rs := [12]) (by kernel_rfl) (by simp) ?_
     refine AllReadyH.cons (o := { dst := some 37, op := .buildSlice 24 1 #[(0, .tmp 36)], type := _, pos := _, after := _, guard := none }) rfl (fun K0 hK => ?_) AllReadyH.nil
     refine step_bs3 rfl 36 rfl w26x (x0 := sV asp) (x1 := sV anm) (x2 := sV avl) rfl ?_
     have b27x := below_alloc8 w26x (.cells #[sV asp, sV anm, sV avl] TA3 (0, 0))
     have HH := Blk.new (.cells #[sV asp, sV anm, sV avl] TA3 (0, 0)) w26x
     have I27x := HBB.out _ _ I26x b27x
     clear b27x
     refine hK.out _ _ (HSS.out _ I27x) (fun _ => ?_)
     clear hK
     try simp only [Act.put, zA8, zB8, zC8]
     obtain ⟨H27, hHe27⟩ : ∃ V, w26x.heap.size = V := ⟨_, rfl⟩
     rw [hHe27] at HH ⊢
     generalize w26x.alloc (.cells #[sV asp, sV anm, sV avl] TA3 (0, 0)) = w27x at *
     obtain ⟨i0, hi, hz0, hz1, hz2⟩ := info_parts Tryz.info8A
     refine wpAnyH_ready (rs := [13]) (by kernel_rfl) (by simp) ?_
     refine AllReadyH.cons (o := { dst := some 38, op := .call { callee := .builtin .append, args := #[.tmp 26, .tmp 37], argTypes := #[24, 24] }, type := _, pos := _, after := _, guard := none }) rfl (fun K0 hK => ?_) AllReadyH.nil
     have hvl := I27x.2.mc.blk.lt
     have hown : w27x.ownsRow (V + 1) TA3 3 (.slice avA k avc) k (cA pr) := by have := I27x.2.mc.attrs; rwa [HPL.out] at this
     refine step_append_lies w27x rfl (.tmp 26) (.tmp 37) 24 rfl (V + 1) TA3 i0 _ 3 48 Tryz.underlying24 hi hz0 hz1 hz2 rfl (by decide) (.slice avA k avc) k (cA pr) rfl hown ⟨H27, 0, none⟩ 1 1 [sV asp, sV anm, sV avl] rfl rfl (World.news_of_block HH) (s3_one asp anm avl) (by decide) (by unfold maxLen; omega) (by omega) hvl w27x.heap.size rfl ?_
     intro g cap w7 L7 gr7 at7 lt7
     have o7 := Off.of_grown gr7
     have hat : Value.ownBlock (.slice avA k avc) = some g ∨ w27x.heap.size ≤ g := at7.imp id (fun h => by omega)
     have hZB7 := o7.blk I27x.1 (fun e => hZne e)
     have hB7 := o7.blk I27x.2.mc.blk (fun e => by have := I27x.2.mc.ha e; omega)
     refine hK.out _ _ ⟨hZB7.cell 0, hZB7.cell 1, hZB7.cell 2⟩ (fun _ => ?_)
     clear hK
     try simp only [Act.put, zA8, zB8, zC8]
     refine wpAnyH_take (i := 14) (v := .pointer (some ⟨V, 2, none⟩)) rfl (by kernel_rfl) (by kernel_rfl) (by kernel_rfl) (fun _ _ _ h => h) (Or.inl ⟨by rfl, by intro w hSw; clear hSw; go_simp⟩) ⟨hZB7.cell 0, hZB7.cell 1, hZB7.cell 2⟩ ?_
     change wpAnyH _ _ _ _ _ _ _ (Act.put _ (some 39) _) _
     try simp only [Act.put, zA8, zB8, zC8]
     refine wpAnyH_ready (rs := [15]) (by kernel_rfl) (by simp) ?_
     refine AllReadyH.cons (o := { dst := none, op := .store 24 (.tmp 39) (.tmp 38), type := _, pos := _, after := _, guard := none }) rfl (fun K0 hK => ?_) AllReadyH.nil
     refine step_stA rfl 39 38 rfl rfl w7 (b := V) (k := 2) (v := .slice (some ⟨g, 0, none⟩) (k + 1) cap) rfl rfl (hB7.cell 2) (hB7.free 2) ⟨_, _, _, rfl⟩ ?_
     obtain ⟨M8, o8⟩ := MC8.pushA (a := (asp, anm, avl)) (g := g) (cap := cap) I27x.2.mc (by rw [HPL.out]; exact L7) o7 hat
     rw [HPL.out] at M8 o8
     have C8 := I27x.2.off M8 o8
     have hZV : V ≠ Z := fun e => by have h1 := I27x.1; have h2 := I27x.2.mc.blk; rw [e] at h2; have := h1.symm.trans h2; cases this
     have hZB8 := (off_set8 w7 V 2 (.slice (some ⟨g, 0, none⟩) (k + 1) cap)).blk hZB7 (fun e => hZV e.symm)
     refine hK.out _ _ ⟨hZB8.cell 0, hZB8.cell 1, hZB8.cell 2⟩ (fun _ => ?_)
     clear hK
     rw [← HTK.out] at C8
     have HC8 := hid C8
     generalize w7.setCell ⟨V, 2, none⟩ (.slice (some ⟨g, 0, none⟩) (k + 1) cap) = w8 at *
     refine wpAnyH_done (by kernel_rfl) ?_ _
     clear C8 M8 o8 hZB8 hZB7 hB7 o7 hat L7 gr7 at7 lt7
     go_wp2
     go_roundw
     case rel => exact ⟨k + 1, by omega, by go_num, hid ⟨_, HC8.out⟩⟩
     case measure => simp [RowKit.intOf]; omega
    refine AllReadyH.cons (o := { dst := some 35, op := .call { callee := .value (.func 45), args := #[.tmp 34], argTypes := _ }, type := _, pos := _, after := _, guard := none }) rfl (fun K0 hK => ?_) AllReadyH.nil
    go_simp
    (with_reducible refine (HA2.out _).mono ?_)
    rintro e w28x ⟨rfl, b28x⟩
    have I28x := HBB.out _ _ I24x b28x
    clear b28x
    refine hK.out _ _ (HSS.out _ I28x) (fun _ => ?_)
    clear hK
    try simp only [Act.put, zA8, zB8, zC8]
    refine wpAnyH_take (i := 11) (v := .agg #[sV asp, sV anm, sV avl]) rfl (by kernel_rfl) (by kernel_rfl) (by kernel_rfl) (fun _ _ _ h => h) (Or.inl ⟨by rfl, by intro w hSw; clear hSw; go_simp⟩) (HSS.out _ I28x) ?_
    change wpAnyH _ _ _ _ _ _ _ (Act.put _ (some 36) _) _
    try simp only [Act.put, zA8, zB8, zC8]
    refine wpAnyH_ready (rs := [1, 12]) (by kernel_rfl) (by simp) ?_
    refine AllReadyH.cons (o := { dst := some 26, op := .load 24 (.tmp 25), type := _, pos := _, after := _, guard := none }) rfl (fun K0 hK => ?_) ?_
    ·-- 1
     refine step_ldA rfl 25 _ (.inl rfl) rfl w28x (b := V) (k := 2) rfl (I28x.2.mc.blk.cell 2) ⟨_, _, _, rfl⟩ ?_
     refine hK.out _ _ (HSS.out _ I28x) (fun _ => ?_)
     clear hK
     try simp only [Act.put, zA8, zB8, zC8]
     refine wpAnyH_ready (rs := [12]) (by kernel_rfl) (by simp) ?_
     refine AllReadyH.cons (o := { dst := some 37, op := .buildSlice 24 1 #[(0, .tmp 36)], type := _, pos := _, after := _, guard := none }) rfl (fun K0 hK => ?_) AllReadyH.nil
     refine step_bs3 rfl 36 rfl w28x (x0 := sV asp) (x1 := sV anm) (x2 := sV avl) rfl ?_
     have b30x := below_alloc8 w28x (.cells #[sV asp, sV anm, sV avl] TA3 (0, 0))
     have HH := Blk.new (.cells #[sV asp, sV anm, sV avl] TA3 (0, 0)) w28x
     have I30x := HBB.out _ _ I28x b30x
     clear b30x
     refine hK.out _ _ (HSS.out _ I30x) (fun _ => ?_)
     clear hK
     try simp only [Act.put, zA8, zB8, zC8]
     obtain ⟨H30, hHe30⟩ : ∃ V, w28x.heap.size = V := ⟨_, rfl⟩
     rw [hHe30] at HH ⊢
     generalize w28x.alloc (.cells #[sV asp, sV anm, sV avl] TA3 (0, 0)) = w30x at *
     obtain ⟨i0, hi, hz0, hz1, hz2⟩ := info_parts Tryz.info8A
     refine wpAnyH_ready (rs := [13]) (by kernel_rfl) (by simp) ?_
     refine AllReadyH.cons (o := { dst := some 38, op := .call { callee := .builtin .append, args := #[.tmp 26, .tmp 37], argTypes := #[24, 24] }, type := _, pos := _, after := _, guard := none }) rfl (fun K0 hK => ?_) AllReadyH.nil
     have hvl := I30x.2.mc.blk.lt
     have hown : w30x.ownsRow (V + 1) TA3 3 (.slice avA k avc) k (cA pr) := by have := I30x.2.mc.attrs; rwa [HPL.out] at this
     refine step_append_lies w30x rfl (.tmp 26) (.tmp 37) 24 rfl (V + 1) TA3 i0 _ 3 48 Tryz.underlying24 hi hz0 hz1 hz2 rfl (by decide) (.slice avA k avc) k (cA pr) rfl hown ⟨H30, 0, none⟩ 1 1 [sV asp, sV anm, sV avl] rfl rfl (World.news_of_block HH) (s3_one asp anm avl) (by decide) (by unfold maxLen; omega) (by omega) hvl w30x.heap.size rfl ?_
     intro g cap w7 L7 gr7 at7 lt7
     have o7 := Off.of_grown gr7
     have hat : Value.ownBlock (.slice avA k avc) = some g ∨ w30x.heap.size ≤ g := at7.imp id (fun h => by omega)
     have hZB7 := o7.blk I30x.1 (fun e => hZne e)
     have hB7 := o7.blk I30x.2.mc.blk (fun e => by have := I30x.2.mc.ha e; omega)
     refine hK.out _ _ ⟨hZB7.cell 0, hZB7.cell 1, hZB7.cell 2⟩ (fun _ => ?_)
     clear hK
     try simp only [Act.put, zA8, zB8, zC8]
     refine wpAnyH_take (i := 14) (v := .pointer (some ⟨V, 2, none⟩)) rfl (by kernel_rfl) (by kernel_rfl) (by kernel_rfl) (fun _ _ _ h => h) (Or.inl ⟨by rfl, by intro w hSw; clear hSw; go_simp⟩) ⟨hZB7.cell 0, hZB7.cell 1, hZB7.cell 2⟩ ?_
     change wpAnyH _ _ _ _ _ _ _ (Act.put _ (some 39) _) _
     try simp only [Act.put, zA8, zB8, zC8]
     refine wpAnyH_ready (rs := [15]) (by kernel_rfl) (by simp) ?_
     refine AllReadyH.cons (o := { dst := none, op := .store 24 (.tmp 39) (.tmp 38), type := _, pos := _, after := _, guard := none }) rfl (fun K0 hK => ?_) AllReadyH.nil
     refine step_stA rfl 39 38 rfl rfl w7 (b := V) (k := 2) (v := .slice (some ⟨g, 0, none⟩) (k + 1) cap) rfl rfl (hB7.cell 2) (hB7.free 2) ⟨_, _, _, rfl⟩ ?_
     obtain ⟨M8, o8⟩ := MC8.pushA (a := (asp, anm, avl)) (g := g) (cap := cap) I30x.2.mc (by rw [HPL.out]; exact L7) o7 hat
     rw [HPL.out] at M8 o8
     have C8 := I30x.2.off M8 o8
     have hZV : V ≠ Z := fun e => by have h1 := I30x.1; have h2 := I30x.2.mc.blk; rw [e] at h2; have := h1.symm.trans h2; cases this
     have hZB8 := (off_set8 w7 V 2 (.slice (some ⟨g, 0, none⟩) (k + 1) cap)).blk hZB7 (fun e => hZV e.symm)
     refine hK.out _ _ ⟨hZB8.cell 0, hZB8.cell 1, hZB8.cell 2⟩ (fun _ => ?_)
     clear hK
     rw [← HTK.out] at C8
     have HC8 := hid C8
     generalize w7.setCell ⟨V, 2, none⟩ (.slice (some ⟨g, 0, none⟩) (k + 1) cap) = w8 at *
     refine wpAnyH_done (by kernel_rfl) ?_ _
     clear C8 M8 o8 hZB8 hZB7 hB7 o7 hat L7 gr7 at7 lt7
     go_wp2
     go_roundw
     case rel => exact ⟨k + 1, by omega, by go_num, hid ⟨_, HC8.out⟩⟩
     case measure => simp [RowKit.intOf]; omega
    refine AllReadyH.cons (o := { dst := some 37, op := .buildSlice 24 1 #[(0, .tmp 36)], type := _, pos := _, after := _, guard := none }) rfl (fun K0 hK => ?_) AllReadyH.nil
    refine step_bs3 rfl 36 rfl w28x (x0 := sV asp) (x1 := sV anm) (x2 := sV avl) rfl ?_
    have b31x := below_alloc8 w28x (.cells #[sV asp, sV anm, sV avl] TA3 (0, 0))
    have HH := Blk.new (.cells #[sV asp, sV anm, sV avl] TA3 (0, 0)) w28x
    have I31x := HBB.out _ _ I28x b31x
    clear b31x
    refine hK.out _ _ (HSS.out _ I31x) (fun _ => ?_)
    clear hK
    try simp only [Act.put, zA8, zB8, zC8]
    obtain ⟨H31, hHe31⟩ : ∃ V, w28x.heap.size = V := ⟨_, rfl⟩
    rw [hHe31] at HH ⊢
    generalize w28x.alloc (.cells #[sV asp, sV anm, sV avl] TA3 (0, 0)) = w31x at *
    refine wpAnyH_ready (rs := [1]) (by kernel_rfl) (by simp) ?_
    refine AllReadyH.cons (o := { dst := some 26, op := .load 24 (.tmp 25), type := _, pos := _, after := _, guard := none }) rfl (fun K0 hK => ?_) AllReadyH.nil
    refine step_ldA rfl 25 _ (.inl rfl) rfl w31x (b := V) (k := 2) rfl (I31x.2.mc.blk.cell 2) ⟨_, _, _, rfl⟩ ?_
    refine hK.out _ _ (HSS.out _ I31x) (fun _ => ?_)
    clear hK
    try simp only [Act.put, zA8, zB8, zC8]
    obtain ⟨i0, hi, hz0, hz1, hz2⟩ := info_parts Tryz.info8A
    refine wpAnyH_ready (rs := [13]) (by kernel_rfl) (by simp) ?_
    refine AllReadyH.cons (o := { dst := some 38, op := .call { callee := .builtin .append, args := #[.tmp 26, .tmp 37], argTypes := #[24, 24] }, type := _, pos := _, after := _, guard := none }) rfl (fun K0 hK => ?_) AllReadyH.nil
    have hvl := I31x.2.mc.blk.lt
    have hown : w31x.ownsRow (V + 1) TA3 3 (.slice avA k avc) k (cA pr) := by have := I31x.2.mc.attrs; rwa [HPL.out] at this
    refine step_append_lies w31x rfl (.tmp 26) (.tmp 37) 24 rfl (V + 1) TA3 i0 _ 3 48 Tryz.underlying24 hi hz0 hz1 hz2 rfl (by decide) (.slice avA k avc) k (cA pr) rfl hown ⟨H31, 0, none⟩ 1 1 [sV asp, sV anm, sV avl] rfl rfl (World.news_of_block HH) (s3_one asp anm avl) (by decide) (by unfold maxLen; omega) (by omega) hvl w31x.heap.size rfl ?_
    intro g cap w7 L7 gr7 at7 lt7
    have o7 := Off.of_grown gr7
    have hat : Value.ownBlock (.slice avA k avc) = some g ∨ w31x.heap.size ≤ g := at7.imp id (fun h => by omega)
    have hZB7 := o7.blk I31x.1 (fun e => hZne e)
    have hB7 := o7.blk I31x.2.mc.blk (fun e => by have := I31x.2.mc.ha e; omega)
    refine hK.out _ _ ⟨hZB7.cell 0, hZB7.cell 1, hZB7.cell 2⟩ (fun _ => ?_)
    clear hK
    try simp only [Act.put, zA8, zB8, zC8]
    refine wpAnyH_take (i := 14) (v := .pointer (some ⟨V, 2, none⟩)) rfl (by kernel_rfl) (by kernel_rfl) (by kernel_rfl) (fun _ _ _ h => h) (Or.inl ⟨by rfl, by intro w hSw; clear hSw; go_simp⟩) ⟨hZB7.cell 0, hZB7.cell 1, hZB7.cell 2⟩ ?_
    change wpAnyH _ _ _ _ _ _ _ (Act.put _ (some 39) _) _
    try simp only [Act.put, zA8, zB8, zC8]
    refine wpAnyH_ready (rs := [15]) (by kernel_rfl) (by simp) ?_
    refine AllReadyH.cons (o := { dst := none, op := .store 24 (.tmp 39) (.tmp 38), type := _, pos := _, after := _, guard := none }) rfl (fun K0 hK => ?_) AllReadyH.nil
    refine step_stA rfl 39 38 rfl rfl w7 (b := V) (k := 2) (v := .slice (some ⟨g, 0, none⟩) (k + 1) cap) rfl rfl (hB7.cell 2) (hB7.free 2) ⟨_, _, _, rfl⟩ ?_
    obtain ⟨M8, o8⟩ := MC8.pushA (a := (asp, anm, avl)) (g := g) (cap := cap) I31x.2.mc (by rw [HPL.out]; exact L7) o7 hat
    rw [HPL.out] at M8 o8
    have C8 := I31x.2.off M8 o8
    have hZV : V ≠ Z := fun e => by have h1 := I31x.1; have h2 := I31x.2.mc.blk; rw [e] at h2; have := h1.symm.trans h2; cases this
    have hZB8 := (off_set8 w7 V 2 (.slice (some ⟨g, 0, none⟩) (k + 1) cap)).blk hZB7 (fun e => hZV e.symm)
    refine hK.out _ _ ⟨hZB8.cell 0, hZB8.cell 1, hZB8.cell 2⟩ (fun _ => ?_)
    clear hK
    rw [← HTK.out] at C8
    have HC8 := hid C8
    generalize w7.setCell ⟨V, 2, none⟩ (.slice (some ⟨g, 0, none⟩) (k + 1) cap) = w8 at *
    refine wpAnyH_done (by kernel_rfl) ?_ _
    clear C8 M8 o8 hZB8 hZB7 hB7 o7 hat L7 gr7 at7 lt7
    go_wp2
    go_roundw
    case rel => exact ⟨k + 1, by omega, by go_num, hid ⟨_, HC8.out⟩⟩
    case measure => simp [RowKit.intOf]; omega
   ·obtain rfl : nA = k := by omega
    have htk : al.take nA = al := List.take_of_length_le (by rw [HNA.out]; exact Nat.le_refl _)
    rw [htk] at hC
    have HC := hid hC
    have p3 : wr.cell? ⟨P, 3, none⟩ = some (.slice kA nK kc) := by have := hC.par.cell 3; rw [← HSRC.out] at this; exact this
    clear htk hC hlt
    go_wp2
    clear p3
    go_loopw [44] (fun i wr => ∃ j : Nat, j ≤ nK ∧ i = .int .i64 j ∧ Hid (∃ kv cs U, CLA P (P + 1) V src sp nm tx av kv cs U al (ks.take j) w wr)) (fun i _ => nK - (RowKit.intOf i).toNat)
    case atStart => exact ⟨0, Nat.zero_le _, rfl, hid ⟨_, _, _, by rw [List.take_zero]; exact HC.out⟩⟩
    case round =>
     clear HC
     obtain ⟨j, hj, rfl, HSE⟩ := hrel
     obtain ⟨kv, cs, U, hC⟩ := HSE.out
     clear HSE
     by_cases hjt : j < nK
     ·have hjl : j < ks.length := by rw [HNK.out]; exact hjt
      obtain ⟨bb, off, hAe, hT, hbl, hll⟩ := HK.out (by omega)
      obtain ⟨kaA, kac, kkA, kkc, c0, c1, c2, c3, c4, hxk⟩ := XRl.cells hll j hjl
      have HTK := hid (List.take_succ_eq_append_getElem hjl)
      have hwm := wXs_mem (List.getElem_mem hjl)
      have hwk := HWK.out
      obtain ⟨kid, hkid⟩ : ∃ a, ks[j] = a := ⟨_, rfl⟩
      rw [hkid] at c0 c1 c2 c3 c4 hxk HTK hwm
      have hb := hC.since
      have y0 := (hb.cell (p := ⟨bb, off + j * 5, none⟩) hbl).trans c0
      have y1 := (hb.cell (p := ⟨bb, off + j * 5 + 1, none⟩) hbl).trans c1
      have y2 := (hb.cell (p := ⟨bb, off + j * 5 + 2, none⟩) hbl).trans c2
      have y3 := (hb.cell (p := ⟨bb, off + j * 5 + 3, none⟩) hbl).trans c3
      have y4 := (hb.cell (p := ⟨bb, off + j * 5 + 4, none⟩) hbl).trans c4
      subst hAe
      obtain ⟨kn, hkn⟩ : ∃ n, kid.attrs.length = n := ⟨_, rfl⟩
      obtain ⟨kkn, hkkn⟩ : ∃ n, kid.kids.length = n := ⟨_, rfl⟩
      rw [hkn] at y2 hxk
      rw [hkkn] at y3 hxk
      obtain ⟨pr, hpr⟩ : ∃ l, ks.take j = l := ⟨_, rfl⟩
      rw [hpr] at hC HTK
      have hprl : pr.length = j := by rw [← hpr, List.length_take]; omega
      obtain ⟨kvA, kvc, rfl⟩ := hC.mc.kForm
      rw [hprl] at hC
      have HPL := hid hprl
      obtain ⟨Z, hZ⟩ : ∃ Z, wr.heap.size = Z := ⟨_, rfl⟩
      have hB1 := below_alloc8 wr (.cells #[sV kid.space, sV kid.name, .slice kaA kn kac, .slice kkA kkn kkc, sV kid.text] TNo)
      have hZB : Blk Z (.cells #[sV kid.space, sV kid.name, .slice kaA kn kac, .slice kkA kkn kkc, sV kid.text] TNo) (wr.alloc (.cells #[sV kid.space, sV kid.name, .slice kaA kn kac, .slice kkA kkn kkc, sV kid.text] TNo)) := by have := Blk.new (.cells #[sV kid.space, sV kid.name, .slice kaA kn kac, .slice kkA kkn kkc, sV kid.text] TNo) wr; rwa [hZ] at this
      have hZk : Value.ownBlock (.slice kvA j kvc) ≠ some Z := fun e => by have := hC.mc.hk e; omega
      have hZV : V < Z := by have := hC.mc.blk.lt; omega
      have HI := hid (And.intro hZB (hC.below hB1))
      have HCK := hid (fun (W : World) (hW : Below w.heap.size w W) => HIH.out T kid _ W (by omega) (hxk.below hW))
      unfold CloO at HCK
      clear c0 c1 c2 c3 c4 hll hkid hwm hwk hb hkn hkkn hpr hprl hB1 hZB hC hxk
      go_wp2
      rw [hZ] at *
      have J0 := HI.out
      obtain ⟨W1, hW1⟩ : ∃ W, wr.alloc (.cells #[sV kid.space, sV kid.name, .slice kaA kn kac, .slice kkA kkn kkc, sV kid.text] TNo) = W := ⟨_, rfl⟩
      rw [hW1] at J0 ⊢
      have HSS : Hid (∀ W, (Blk Z (.cells #[sV kid.space, sV kid.name, .slice kaA kn kac, .slice kkA kkn kkc, sV kid.text] TNo) W ∧ CLA P (P + 1) V src sp nm tx av (.slice kvA j kvc) cs U al pr w W) → (fun W => W.cell? ⟨Z, 0, none⟩ = some (sV kid.space) ∧ W.cell? ⟨Z, 1, none⟩ = some (sV kid.name) ∧ W.cell? ⟨Z, 2, none⟩ = some (.slice kaA kn kac) ∧ W.cell? ⟨Z, 3, none⟩ = some (.slice kkA kkn kkc) ∧ W.cell? ⟨Z, 4, none⟩ = some (sV kid.text)) W) := hid (fun W hW => ⟨hW.1.cell 0, hW.1.cell 1, hW.1.cell 2, hW.1.cell 3, hW.1.cell 4⟩)
      have HBB : Hid (∀ W W', (Blk Z (.cells #[sV kid.space, sV kid.name, .slice kaA kn kac, .slice kkA kkn kkc, sV kid.text] TNo) W ∧ CLA P (P + 1) V src sp nm tx av (.slice kvA j kvc) cs U al pr w W) → Below W.heap.size W W' → (Blk Z (.cells #[sV kid.space, sV kid.name, .slice kaA kn kac, .slice kkA kkn kkc, sV kid.text] TNo) W' ∧ CLA P (P + 1) V src sp nm tx av (.slice kvA j kvc) cs U al pr w W')) := hid (fun W W' h b => ⟨(Off.of_below b).blk h.1 (fun h => h), h.2.below b⟩)
      have I0 := HBB.out _ W1.drew J0 (below_drewN (Below.refl _ _) 1)
      clear HI hW1 J0
      refine wp_region_held_drew (S := fun W => W.cell? ⟨Z, 0, none⟩ = some (sV kid.space) ∧ W.cell? ⟨Z, 1, none⟩ = some (sV kid.name) ∧ W.cell? ⟨Z, 2, none⟩ = some (.slice kaA kn kac) ∧ W.cell? ⟨Z, 3, none⟩ = some (.slice kkA kkn kkc) ∧ W.cell? ⟨Z, 4, none⟩ = some (sV kid.text)) (by kernel_rfl) (HSS.out _ I0) (fun _ => ?_)
      generalize W1.drew = w0 at *
      clear W1
      refine wpAnyH_take (i := 0) (v := .pointer (some ⟨V, 3, none⟩)) rfl (by kernel_rfl) (by kernel_rfl) (by kernel_rfl) (fun _ _ _ h => h) (Or.inl ⟨by rfl, by intro w hSw; clear hSw; go_simp⟩) (HSS.out _ I0) ?_
      change wpAnyH _ _ _ _ _ _ _ (Act.put _ (some 48) _) _
      try simp only [Act.put, zA8, zB8, zC8]
      refine wpAnyH_take (i := 2) (v := .agg #[sV kid.space, sV kid.name, .slice kaA kn kac, .slice kkA kkn kkc, sV kid.text]) rfl (by kernel_rfl) (by kernel_rfl) (by kernel_rfl) (fun _ _ _ h => h) (Or.inl ⟨by rfl, by intro w hSw; (try dsimp only at hSw); go_simp⟩) (HSS.out _ I0) ?_
      change wpAnyH _ _ _ _ _ _ _ (Act.put _ (some 50) _) _
      try simp only [Act.put, zA8, zB8, zC8]
      refine wpAnyH_ready (rs := [1, 3]) (by kernel_rfl) (by simp) ?_
      refine AllReadyH.cons (o := { dst := some 49, op := .load 25 (.tmp 48), type := _, pos := _, after := _, guard := none }) rfl (fun K0 hK => ?_) ?_
      ·-- 1
       refine step_ldA rfl 48 _ (.inr rfl) rfl w0 (b := V) (k := 3) rfl (I0.2.mc.blk.cell 3) ⟨_, _, _, rfl⟩ ?_
       refine hK.out _ _ (HSS.out _ I0) (fun _ => ?_)
       clear hK
       try simp only [Act.put, zA8, zB8, zC8]
       refine wpAnyH_ready (rs := [3]) (by kernel_rfl) (by simp) ?_
       refine AllReadyH.cons (o := { dst := some 51, op := .call { callee := .value (.func 44), args := #[.tmp 50], argTypes := _ }, type := _, pos := _, after := _, guard := none }) rfl (fun K0 hK => ?_) AllReadyH.nil
       go_simp
       (with_reducible refine (HCK.out _ I0.2.since).mono ?_)
       rintro e w34x ⟨⟨xk, rfl, hxk⟩, b34x⟩
       obtain ⟨k0, k1, k2, k3, k4, rfl, hone⟩ := XR.agg5 hxk
       have hUk : ∀ b, (fun b => w0.heap.size ≤ b ∧ b < w34x.heap.size) b → V < b ∧ b < w34x.heap.size ∧ av.ownBlock ≠ some b ∧ Value.ownBlock (.slice kvA j kvc) ≠ some b := fun b hb => ⟨by have := I0.2.mc.blk.lt; omega, hb.2, fun e => by have := I0.2.mc.ha e; omega, fun e => by have := I0.2.mc.hk e; omega⟩
       have I34x := HBB.out _ _ I0 b34x
       clear b34x
       refine hK.out _ _ (HSS.out _ I34x) (fun _ => ?_)
       clear hK
       try simp only [Act.put, zA8, zB8, zC8]
       generalize hUe : (fun b => w0.heap.size ≤ b ∧ b < w34x.heap.size) = U2 at *
       clear hUe
       refine wpAnyH_ready (rs := [4]) (by kernel_rfl) (by simp) ?_
       refine AllReadyH.cons (o := { dst := some 52, op := .buildSlice 25 1 #[(0, .tmp 51)], type := _, pos := _, after := _, guard := none }) rfl (fun K0 hK => ?_) AllReadyH.nil
       refine step_bs5 rfl 51 rfl w34x (x0 := k0) (x1 := k1) (x2 := k2) (x3 := k3) (x4 := k4) rfl ?_
       have b35x := below_alloc8 w34x (.cells #[k0, k1, k2, k3, k4] TNo)
       have HH := Blk.new (.cells #[k0, k1, k2, k3, k4] TNo) w34x
       have I35x := HBB.out _ _ I34x b35x
       have hxk := XR.below hxk b35x
       have hUk : ∀ b, U2 b → V < b ∧ b < (w34x.alloc (.cells #[k0, k1, k2, k3, k4] TNo)).heap.size ∧ av.ownBlock ≠ some b ∧ Value.ownBlock (.slice kvA j kvc) ≠ some b := fun b hb => ⟨(hUk b hb).1, Nat.lt_of_lt_of_le (hUk b hb).2.1 b35x.size, (hUk b hb).2.2⟩
       clear b35x
       refine hK.out _ _ (HSS.out _ I35x) (fun _ => ?_)
       clear hK
       try simp only [Act.put, zA8, zB8, zC8]
       obtain ⟨H35, hHe35⟩ : ∃ V, w34x.heap.size = V := ⟨_, rfl⟩
       rw [hHe35] at HH ⊢
       generalize w34x.alloc (.cells #[k0, k1, k2, k3, k4] TNo) = w35x at *
       obtain ⟨i0, hi, hz0, hz1, hz2⟩ := info_parts Tryz.info8N
       refine wpAnyH_ready (rs := [5]) (by kernel_rfl) (by simp) ?_
       refine AllReadyH.cons (o := { dst := some 53, op := .call { callee := .builtin .append, args := #[.tmp 49, .tmp 52], argTypes := #[25, 25] }, type := _, pos := _, after := _, guard := none }) rfl (fun K0 hK => ?_) AllReadyH.nil
       have hvl := I35x.2.mc.blk.lt
       have hown : w35x.ownsRow (V + 1) TNo 5 (.slice kvA j kvc) j cs := by have := I35x.2.mc.kids; rwa [HPL.out] at this
       refine step_append_lies w35x rfl (.tmp 49) (.tmp 52) 25 rfl (V + 1) TNo i0 _ 5 96 Tryz.underlying25 hi hz0 hz1 hz2 rfl (by decide) (.slice kvA j kvc) j cs rfl hown ⟨H35, 0, none⟩ 1 1 [k0, k1, k2, k3, k4] rfl rfl (World.news_of_block HH) (fun u hu => of_all5 hone u hu) (by decide) (by unfold maxLen; omega) (by omega) hvl w35x.heap.size rfl ?_
       intro g cap w7 L7 gr7 at7 lt7
       have o7 := Off.of_grown gr7
       have hat : Value.ownBlock (.slice kvA j kvc) = some g ∨ w35x.heap.size ≤ g := at7.imp id (fun h => by omega)
       have hZB7 := o7.blk I35x.1 (fun e => hZk e)
       have hB7 := o7.blk I35x.2.mc.blk (fun e => by have := I35x.2.mc.hk e; omega)
       refine hK.out _ _ ⟨hZB7.cell 0, hZB7.cell 1, hZB7.cell 2, hZB7.cell 3, hZB7.cell 4⟩ (fun _ => ?_)
       clear hK
       try simp only [Act.put, zA8, zB8, zC8]
       refine wpAnyH_take (i := 6) (v := .pointer (some ⟨V, 3, none⟩)) rfl (by kernel_rfl) (by kernel_rfl) (by kernel_rfl) (fun _ _ _ h => h) (Or.inl ⟨by rfl, by intro w hSw; clear hSw; go_simp⟩) ⟨hZB7.cell 0, hZB7.cell 1, hZB7.cell 2, hZB7.cell 3, hZB7.cell 4⟩ ?_
       change wpAnyH _ _ _ _ _ _ _ (Act.put _ (some 54) _) _
       try simp only [Act.put, zA8, zB8, zC8]
       refine wpAnyH_ready (rs := [7]) (by kernel_rfl) (by simp) ?_
       refine AllReadyH.cons (o := { dst := none, op := .store 25 (.tmp 54) (.tmp 53), type := _, pos := _, after := _, guard := none }) rfl (fun K0 hK => ?_) AllReadyH.nil
       refine step_stS rfl 54 53 rfl rfl w7 (b := V) (k := 3) (v := .slice (some ⟨g, 0, none⟩) (j + 1) cap) rfl rfl (hB7.cell 3) (hB7.free 3) ⟨_, _, _, rfl⟩ ?_
       obtain ⟨M8, o8⟩ := MC8.pushK (g := g) (cap := cap) I35x.2.mc hUk hxk (by rw [HPL.out]; exact L7) o7 hat
       rw [HPL.out] at M8 o8
       have C8 := I35x.2.off M8 o8
       have hZB8 := (off_set8 w7 V 3 (.slice (some ⟨g, 0, none⟩) (j + 1) cap)).blk hZB7 (fun e => by omega)
       refine hK.out _ _ ⟨hZB8.cell 0, hZB8.cell 1, hZB8.cell 2, hZB8.cell 3, hZB8.cell 4⟩ (fun _ => ?_)
       clear hK
       rw [← HTK.out] at C8
       have HC8 := hid C8
       generalize w7.setCell ⟨V, 3, none⟩ (.slice (some ⟨g, 0, none⟩) (j + 1) cap) = w8 at *
       refine wpAnyH_done (by kernel_rfl) ?_ _
       clear C8 M8 o8 hZB8 hZB7 hB7 o7 hat L7 gr7 at7 lt7
       go_wp2
       go_roundw
       case rel => exact ⟨j + 1, by omega, by go_num, hid ⟨_, _, _, HC8.out⟩⟩
       case measure => simp [RowKit.intOf]; omega
      refine AllReadyH.cons (o := { dst := some 51, op := .call { callee := .value (.func 44), args := #[.tmp 50], argTypes := _ }, type := _, pos := _, after := _, guard := none }) rfl (fun K0 hK => ?_) AllReadyH.nil
      go_simp
      (with_reducible refine (HCK.out _ I0.2.since).mono ?_)
      rintro e w36x ⟨⟨xk, rfl, hxk⟩, b36x⟩
      obtain ⟨k0, k1, k2, k3, k4, rfl, hone⟩ := XR.agg5 hxk
      have hUk : ∀ b, (fun b => w0.heap.size ≤ b ∧ b < w36x.heap.size) b → V < b ∧ b < w36x.heap.size ∧ av.ownBlock ≠ some b ∧ Value.ownBlock (.slice kvA j kvc) ≠ some b := fun b hb => ⟨by have := I0.2.mc.blk.lt; omega, hb.2, fun e => by have := I0.2.mc.ha e; omega, fun e => by have := I0.2.mc.hk e; omega⟩
      have I36x := HBB.out _ _ I0 b36x
      clear b36x
      refine hK.out _ _ (HSS.out _ I36x) (fun _ => ?_)
      clear hK
      try simp only [Act.put, zA8, zB8, zC8]
      generalize hUe : (fun b => w0.heap.size ≤ b ∧ b < w36x.heap.size) = U2 at *
      clear hUe
      refine wpAnyH_ready (rs := [1, 4]) (by kernel_rfl) (by simp) ?_
      refine AllReadyH.cons (o := { dst := some 49, op := .load 25 (.tmp 48), type := _, pos := _, after := _, guard := none }) rfl (fun K0 hK => ?_) ?_
      ·-- 1
       refine step_ldA rfl 48 _ (.inr rfl) rfl w36x (b := V) (k := 3) rfl (I36x.2.mc.blk.cell 3) ⟨_, _, _, rfl⟩ ?_
       refine hK.out _ _ (HSS.out _ I36x) (fun _ => ?_)
       clear hK
       try simp only [Act.put, zA8, zB8, zC8]
       refine wpAnyH_ready (rs := [4]) (by kernel_rfl) (by simp) ?_
       refine AllReadyH.cons (o := { dst := some 52, op := .buildSlice 25 1 #[(0, .tmp 51)], type := _, pos := _, after := _, guard := none }) rfl (fun K0 hK => ?_) AllReadyH.nil
       refine step_bs5 rfl 51 rfl w36x (x0 := k0) (x1 := k1) (x2 := k2) (x3 := k3) (x4 := k4) rfl ?_
       have b38x := below_alloc8 w36x (.cells #[k0, k1, k2, k3, k4] TNo)
       have HH := Blk.new (.cells #[k0, k1, k2, k3, k4] TNo) w36x
       have I38x := HBB.out _ _ I36x b38x
       have hxk := XR.below hxk b38x
       have hUk : ∀ b, U2 b → V < b ∧ b < (w36x.alloc (.cells #[k0, k1, k2, k3, k4] TNo)).heap.size ∧ av.ownBlock ≠ some b ∧ Value.ownBlock (.slice kvA j kvc) ≠ some b := fun b hb => ⟨(hUk b hb).1, Nat.lt_of_lt_of_le (hUk b hb).2.1 b38x.size, (hUk b hb).2.2⟩
       clear b38x
       refine hK.out _ _ (HSS.out _ I38x) (fun _ => ?_)
       clear hK
       try simp only [Act.put, zA8, zB8, zC8]
       obtain ⟨H38, hHe38⟩ : ∃ V, w36x.heap.size = V := ⟨_, rfl⟩
       rw [hHe38] at HH ⊢
       generalize w36x.alloc (.cells #[k0, k1, k2, k3, k4] TNo) = w38x at *
       obtain ⟨i0, hi, hz0, hz1, hz2⟩ := info_parts Tryz.info8N
       refine wpAnyH_ready (rs := [5]) (by kernel_rfl) (by simp) ?_
       refine AllReadyH.cons (o := { dst := some 53, op := .call { callee := .builtin .append, args := #[.tmp 49, .tmp 52], argTypes := #[25, 25] }, type := _, pos := _, after := _, guard := none }) rfl (fun K0 hK => ?_) AllReadyH.nil
       have hvl := I38x.2.mc.blk.lt
       have hown : w38x.ownsRow (V + 1) TNo 5 (.slice kvA j kvc) j cs := by have := I38x.2.mc.kids; rwa [HPL.out] at this
       refine step_append_lies w38x rfl (.tmp 49) (.tmp 52) 25 rfl (V + 1) TNo i0 _ 5 96 Tryz.underlying25 hi hz0 hz1 hz2 rfl (by decide) (.slice kvA j kvc) j cs rfl hown ⟨H38, 0, none⟩ 1 1 [k0, k1, k2, k3, k4] rfl rfl (World.news_of_block HH) (fun u hu => of_all5 hone u hu) (by decide) (by unfold maxLen; omega) (by omega) hvl w38x.heap.size rfl ?_
       intro g cap w7 L7 gr7 at7 lt7
       have o7 := Off.of_grown gr7
       have hat : Value.ownBlock (.slice kvA j kvc) = some g ∨ w38x.heap.size ≤ g := at7.imp id (fun h => by omega)
       have hZB7 := o7.blk I38x.1 (fun e => hZk e)
       have hB7 := o7.blk I38x.2.mc.blk (fun e => by have := I38x.2.mc.hk e; omega)
       refine hK.out _ _ ⟨hZB7.cell 0, hZB7.cell 1, hZB7.cell 2, hZB7.cell 3, hZB7.cell 4⟩ (fun _ => ?_)
       clear hK
       try simp only [Act.put, zA8, zB8, zC8]
       refine wpAnyH_take (i := 6) (v := .pointer (some ⟨V, 3, none⟩)) rfl (by kernel_rfl) (by kernel_rfl) (by kernel_rfl) (fun _ _ _ h => h) (Or.inl ⟨by rfl, by intro w hSw; clear hSw; go_simp⟩) ⟨hZB7.cell 0, hZB7.cell 1, hZB7.cell 2, hZB7.cell 3, hZB7.cell 4⟩ ?_
       change wpAnyH _ _ _ _ _ _ _ (Act.put _ (some 54) _) _
       try simp only [Act.put, zA8, zB8, zC8]
       refine wpAnyH_ready (rs := [7]) (by kernel_rfl) (by simp) ?_
       refine AllReadyH.cons (o := { dst := none, op := .store 25 (.tmp 54) (.tmp 53), type := _, pos := _, after := _, guard := none }) rfl (fun K0 hK => ?_) AllReadyH.nil
       refine step_stS rfl 54 53 rfl rfl w7 (b := V) (k := 3) (v := .slice (some ⟨g, 0, none⟩) (j + 1) cap) rfl rfl (hB7.cell 3) (hB7.free 3) ⟨_, _, _, rfl⟩ ?_
       obtain ⟨M8, o8⟩ := MC8.pushK (g := g) (cap := cap) I38x.2.mc hUk hxk (by rw [HPL.out]; exact L7) o7 hat
       rw [HPL.out] at M8 o8
       have C8 := I38x.2.off M8 o8
       have hZB8 := (off_set8 w7 V 3 (.slice (some ⟨g, 0, none⟩) (j + 1) cap)).blk hZB7 (fun e => by omega)
       refine hK.out _ _ ⟨hZB8.cell 0, hZB8.cell 1, hZB8.cell 2, hZB8.cell 3, hZB8.cell 4⟩ (fun _ => ?_)
       clear hK
       rw [← HTK.out] at C8
       have HC8 := hid C8
       generalize w7.setCell ⟨V, 3, none⟩ (.slice (some ⟨g, 0, none⟩) (j + 1) cap) = w8 at *
       refine wpAnyH_done (by kernel_rfl) ?_ _
       clear C8 M8 o8 hZB8 hZB7 hB7 o7 hat L7 gr7 at7 lt7
       go_wp2
       go_roundw
       case rel => exact ⟨j + 1, by omega, by go_num, hid ⟨_, _, _, HC8.out⟩⟩
       case measure => simp [RowKit.intOf]; omega
      refine AllReadyH.cons (o := { dst := some 52, op := .buildSlice 25 1 #[(0, .tmp 51)], type := _, pos := _, after := _, guard := none }) rfl (fun K0 hK => ?_) AllReadyH.nil
      refine step_bs5 rfl 51 rfl w36x (x0 := k0) (x1 := k1) (x2 := k2) (x3 := k3) (x4 := k4) rfl ?_
      have b39x := below_alloc8 w36x (.cells #[k0, k1, k2, k3, k4] TNo)
      have HH := Blk.new (.cells #[k0, k1, k2, k3, k4] TNo) w36x
      have I39x := HBB.out _ _ I36x b39x
      have hxk := XR.below hxk b39x
      have hUk : ∀ b, U2 b → V < b ∧ b < (w36x.alloc (.cells #[k0, k1, k2, k3, k4] TNo)).heap.size ∧ av.ownBlock ≠ some b ∧ Value.ownBlock (.slice kvA j kvc) ≠ some b := fun b hb => ⟨(hUk b hb).1, Nat.lt_of_lt_of_le (hUk b hb).2.1 b39x.size, (hUk b hb).2.2⟩
      clear b39x
      refine hK.out _ _ (HSS.out _ I39x) (fun _ => ?_)
      clear hK
      try simp only [Act.put, zA8, zB8, zC8]
      obtain ⟨H39, hHe39⟩ : ∃ V, w36x.heap.size = V := ⟨_, rfl⟩
      rw [hHe39] at HH ⊢
      generalize w36x.alloc (.cells #[k0, k1, k2, k3, k4] TNo) = w39x at *
      refine wpAnyH_ready (rs := [1]) (by kernel_rfl) (by simp) ?_
      refine AllReadyH.cons (o := { dst := some 49, op := .load 25 (.tmp 48), type := _, pos := _, after := _, guard := none }) rfl (fun K0 hK => ?_) AllReadyH.nil
      refine step_ldA rfl 48 _ (.inr rfl) rfl w39x (b := V) (k := 3) rfl (I39x.2.mc.blk.cell 3) ⟨_, _, _, rfl⟩ ?_
      refine hK.out _ _ (HSS.out _ I39x) (fun _ => ?_)
      clear hK
      try simp only [Act.put, zA8, zB8, zC8]
      obtain ⟨i0, hi, hz0, hz1, hz2⟩ := info_parts Tryz.info8N
      refine wpAnyH_ready (rs := [5]) (by kernel_rfl) (by simp) ?_
      refine AllReadyH.cons (o := { dst := some 53, op := .call { callee := .builtin .append, args := #[.tmp 49, .tmp 52], argTypes := #[25, 25] }, type := _, pos := _, after := _, guard := none }) rfl (fun K0 hK => ?_) AllReadyH.nil
      have hvl := I39x.2.mc.blk.lt
      have hown : w39x.ownsRow (V + 1) TNo 5 (.slice kvA j kvc) j cs := by have := I39x.2.mc.kids; rwa [HPL.out] at this
      refine step_append_lies w39x rfl (.tmp 49) (.tmp 52) 25 rfl (V + 1) TNo i0 _ 5 96 Tryz.underlying25 hi hz0 hz1 hz2 rfl (by decide) (.slice kvA j kvc) j cs rfl hown ⟨H39, 0, none⟩ 1 1 [k0, k1, k2, k3, k4] rfl rfl (World.news_of_block HH) (fun u hu => of_all5 hone u hu) (by decide) (by unfold maxLen; omega) (by omega) hvl w39x.heap.size rfl ?_
      intro g cap w7 L7 gr7 at7 lt7
      have o7 := Off.of_grown gr7
      have hat : Value.ownBlock (.slice kvA j kvc) = some g ∨ w39x.heap.size ≤ g := at7.imp id (fun h => by omega)
      have hZB7 := o7.blk I39x.1 (fun e => hZk e)
      have hB7 := o7.blk I39x.2.mc.blk (fun e => by have := I39x.2.mc.hk e; omega)
      refine hK.out _ _ ⟨hZB7.cell 0, hZB7.cell 1, hZB7.cell 2, hZB7.cell 3, hZB7.cell 4⟩ (fun _ => ?_)
      clear hK
      try simp only [Act.put, zA8, zB8, zC8]
      refine wpAnyH_take (i := 6) (v := .pointer (some ⟨V, 3, none⟩)) rfl (by kernel_rfl) (by kernel_rfl) (by kernel_rfl) (fun _ _ _ h => h) (Or.inl ⟨by rfl, by intro w hSw; clear hSw; go_simp⟩) ⟨hZB7.cell 0, hZB7.cell 1, hZB7.cell 2, hZB7.cell 3, hZB7.cell 4⟩ ?_
      change wpAnyH _ _ _ _ _ _ _ (Act.put _ (some 54) _) _
      try simp only [Act.put, zA8, zB8, zC8]
      refine wpAnyH_ready (rs := [7]) (by kernel_rfl) (by simp) ?_
      refine AllReadyH.cons (o := { dst := none, op := .store 25 (.tmp 54) (.tmp 53), type := _, pos := _, after := _, guard := none }) rfl (fun K0 hK => ?_) AllReadyH.nil
      refine step_stS rfl 54 53 rfl rfl w7 (b := V) (k := 3) (v := .slice (some ⟨g, 0, none⟩) (j + 1) cap) rfl rfl (hB7.cell 3) (hB7.free 3) ⟨_, _, _, rfl⟩ ?_
      obtain ⟨M8, o8⟩ := MC8.pushK (g := g) (cap := cap) I39x.2.mc hUk hxk (by rw [HPL.out]; exact L7) o7 hat
      rw [HPL.out] at M8 o8
      have C8 := I39x.2.off M8 o8
      have hZB8 := (off_set8 w7 V 3 (.slice (some ⟨g, 0, none⟩) (j + 1) cap)).blk hZB7 (fun e => by omega)
      refine hK.out _ _ ⟨hZB8.cell 0, hZB8.cell 1, hZB8.cell 2, hZB8.cell 3, hZB8.cell 4⟩ (fun _ => ?_)
      clear hK
      rw [← HTK.out] at C8
      have HC8 := hid C8
      generalize w7.setCell ⟨V, 3, none⟩ (.slice (some ⟨g, 0, none⟩) (j + 1) cap) = w8 at *
      refine wpAnyH_done (by kernel_rfl) ?_ _
      clear C8 M8 o8 hZB8 hZB7 hB7 o7 hat L7 gr7 at7 lt7
      go_wp2
      go_roundw
      case rel => exact ⟨j + 1, by omega, by go_num, hid ⟨_, _, _, HC8.out⟩⟩
      case measure => simp [RowKit.intOf]; omega
     ·obtain rfl : nK = j := by omega
      have htk : ks.take nK = ks := List.take_of_length_le (by rw [HNK.out]; exact Nat.le_refl _)
      rw [htk] at hC
      have HC := hid hC
      obtain ⟨avA, avc, rfl⟩ := hC.mc.aForm
      obtain ⟨kvA, kvc, rfl⟩ := hC.mc.kForm
      have m0 := hC.mc.blk.cell 0
      have m1 := hC.mc.blk.cell 1
      have m2 := hC.mc.blk.cell 2
      have m3 := hC.mc.blk.cell 3
      have m4 := hC.mc.blk.cell 4
      have r0 := hC.res.cell 0
      have r1 := hC.res.cell 1
      have r2 := hC.res.cell 2
      have r3 := hC.res.cell 3
      have r4 := hC.res.cell 4
      have f0 := hC.res.free 0
      have f1 := hC.res.free 1
      have f2 := hC.res.free 2
      have f3 := hC.res.free 3
      have f4 := hC.res.free 4
      clear htk hC hjt
      go_wp2
      have hE := five_set (a := sV sp) (b := sV nm) (c := .slice avA al.length avc) (d := .slice kvA ks.length kvc) (e := sV tx) HC.out.res
      have d0 := hE.cell 0
      have d1 := hE.cell 1
      have d2 := hE.cell 2
      have d3 := hE.cell 3
      have d4 := hE.cell 4
      refine bodyPost_ret (v := .agg #[sV sp, sV nm, .slice avA al.length avc, .slice kvA ks.length kvc, sV tx]) ?_ rfl ?_
      ·simp [results, Tryz.results44, go_sem, d0, d1, d2, d3, d4]
      have oE : Off (fun b => b = P + 1) wr (((((wr.setCell ⟨P + 1, 0, none⟩ (sV sp)).setCell ⟨P + 1, 1, none⟩ (sV nm)).setCell ⟨P + 1, 2, none⟩ (.slice avA al.length avc)).setCell ⟨P + 1, 3, none⟩ (.slice kvA ks.length kvc)).setCell ⟨P + 1, 4, none⟩ (sV tx)) := ((((off_set8 _ _ _ _).then (off_set8 _ _ _ _)).then (off_set8 _ _ _ _)).then (off_set8 _ _ _ _)).then (off_set8 _ _ _ _)
      have h1 := HC.out.o1
      have h3 := HC.out.o3
      have hv := HC.out.mc.value
      have hsz := oE.size
      exact CloO.of (XR.mono (fun b hb => ⟨by omega, Nat.lt_of_lt_of_le hb.2 hsz⟩) _ _ (XR.off oE (fun b hb e => by omega) _ _ hv)) (((Off.of_below HC.out.since).trans oE (fun b hb => .inr (by omega))).below (fun _ h => h.elim))
theorem clone_all : ∀ N : Nat, N ≤ 100000 → CloC N
 | 0, _ => fun T v x w hW _ => by have := wX_eq v; omega
 | N + 1, hN => fun T v x w hW hx => clone_step (clone_all N (by omega)) (by omega) hW hx
def findK : List XV → Bt → Bt → Option XV
 | [], _, _ => none
 | k :: l, sp, nm => if namedX k sp nm = true then some k else findK l sp nm
theorem findK_step {l : List XV} {j : Nat} (h : j < l.length) (sp nm : Bt) : findK (l.drop j) sp nm = if namedX l[j] sp nm = true then some l[j] else findK (l.drop (j + 1)) sp nm := by
 rw [List.drop_eq_getElem_cons h, findK]
def FiO (o : Option XV) (w : World) (e : Ending) (w' : World) : Prop :=
 (∃ x b, e = .returned (.tuple #[x, .bool b]) ∧ b = o.isSome ∧ XR w' (fun b => w.heap.size ≤ b ∧ b < w'.heap.size) (o.getD zeroX) x) ∧ Below w.heap.size w w'
theorem FiO.no {o : Option XV} {w w' : World} (h : o = none) (hb : Below w.heap.size w w') : FiO o w (.returned (.tuple #[zNV, .bool false])) w' := by
 subst h
 exact ⟨⟨_, _, rfl, rfl, xr_zero _ _⟩, hb⟩
theorem FiO.yes {o : Option XV} {v : XV} {x : Value} {w w' : World} (h : o = some v) (hx : XR w' (fun b => w.heap.size ≤ b ∧ b < w'.heap.size) v x) (hb : Below w.heap.size w w') : FiO o w (.returned (.tuple #[x, .bool true])) w' := by
 subst h
 exact ⟨⟨_, _, rfl, rfl, hx⟩, hb⟩
structure FSt (P R : Nat) (src : Array Value) (w W : World) : Prop where
 par : Blk P (.cells src TNo) W
 res : Blk R ZN W
 since : Below w.heap.size w W
 o1 : w.heap.size ≤ R
theorem FSt.below {P R : Nat} {src : Array Value} {w W W' : World} (h : FSt P R src w W) (hb : Below W.heap.size W W') : FSt P R src w W' :=
 ⟨(Off.of_below hb).blk h.par (fun h => h), (Off.of_below hb).blk h.res (fun h => h), h.since.trans (hb.mono h.since.size), h.o1⟩
set_option maxRecDepth 100000 in
set_option maxHeartbeats 8000000 in
theorem find_any {T : Nat → Prop} {v : XV} {x : Value} {w : World} (hx : XR w T v x) (hw : wX v ≤ 100000) (sp nm : Bt) :
    Calls Tryz.prog 20 #[x, .string (bs sp), .string (bs nm)] w (FiO (findK v.kids sp nm) w) := by
 have hat : ∃ aA ac kA kc, x = .agg #[sV v.space, sV v.name, .slice aA v.attrs.length ac, .slice kA v.kids.length kc, sV v.text] ∧ RC w T aA (cA v.attrs) ∧ RN8 w T kA v.kids := by
  obtain ⟨sp, nm, al, ks, tx⟩ := v
  exact XR.attrs hx
 obtain ⟨aA, ac, kA, kc, rfl, _, hK⟩ := hat
 have hb1 := below_alloc8 w (.cells #[sV v.space, sV v.name, .slice aA v.attrs.length ac, .slice kA v.kids.length kc, sV v.text] TNo)
 have hP := Blk.new (.cells #[sV v.space, sV v.name, .slice aA v.attrs.length ac, .slice kA v.kids.length kc, sV v.text] TNo) w
 have hb2 := below_alloc8 (w.alloc (.cells #[sV v.space, sV v.name, .slice aA v.attrs.length ac, .slice kA v.kids.length kc, sV v.text] TNo)) ZN
 have hR := Blk.new ZN (w.alloc (.cells #[sV v.space, sV v.name, .slice aA v.attrs.length ac, .slice kA v.kids.length kc, sV v.text] TNo))
 have hsz : (w.alloc (.cells #[sV v.space, sV v.name, .slice aA v.attrs.length ac, .slice kA v.kids.length kc, sV v.text] TNo)).heap.size = w.heap.size + 1 := by simp
 rw [hsz] at hR
 have HF := hid (FSt.mk ((Off.of_below hb2).blk hP (fun h => h)) hR (hb1.trans (hb2.mono hb1.size)) (Nat.le_succ _))
 have hlk := wXs_len v.kids
 have hkk := (wX_text v).2.2.2.2.2
 obtain ⟨ks, hks⟩ : ∃ n, v.kids = n := ⟨_, rfl⟩
 rw [hks] at hK HF hlk hkk ⊢
 have HK := hid hK
 obtain ⟨nA, hnA⟩ : ∃ n, v.attrs.length = n := ⟨_, rfl⟩
 obtain ⟨nK, hnK⟩ : ∃ n, ks.length = n := ⟨_, rfl⟩
 have HNK := hid hnK
 have hnKb : nK ≤ 100000 := by omega
 have HWK : Hid (wXs ks ≤ 100000) := hid (by omega)
 rw [hnA, hnK] at HF
 rw [hnA, hnK]
 obtain ⟨o, ho⟩ : ∃ o, findK ks sp nm = o := ⟨_, rfl⟩
 have HO : Hid (o = findK (ks.drop 0) sp nm) := hid (by rw [List.drop_zero]; exact ho.symm)
 rw [ho]
 clear hx hw hK hb1 hP hb2 hR hsz hlk hkk hks hnA hnK ho
 go_enter Tryz.func20, Tryz.ntmps20
 go_wp2
 go_loopw [13] (fun i wr => ∃ j : Nat, j ≤ nK ∧ i = .int .i64 j ∧ Hid (FSt w.heap.size (w.heap.size + 1) #[sV v.space, sV v.name, .slice aA nA ac, .slice kA nK kc, sV v.text] w wr) ∧ Hid (o = findK (ks.drop j) sp nm)) (fun i _ => nK - (RowKit.intOf i).toNat)
 case atStart => exact ⟨0, Nat.zero_le _, rfl, HF, HO⟩
 case round =>
  clear HF HO
  obtain ⟨j, hj, rfl, HF, HQ⟩ := hrel
  by_cases hjt : j < nK
  ·have hjl : j < ks.length := by rw [HNK.out]; exact hjt
   obtain ⟨bb, off, hAe, hT, hbl, hll⟩ := HK.out (by omega)
   obtain ⟨kaA, kac, kkA, kkc, c0, c1, c2, c3, c4, hxk⟩ := XRl.cells hll j hjl
   have HST := hid (findK_step hjl sp nm)
   have hwm := wXs_mem (List.getElem_mem hjl)
   obtain ⟨kid, hkid⟩ : ∃ a, ks[j] = a := ⟨_, rfl⟩
   rw [hkid] at c0 c1 c2 c3 c4 hxk HST hwm
   have hb := HF.out.since
   have y0 := (hb.cell (p := ⟨bb, off + j * 5, none⟩) hbl).trans c0
   have y1 := (hb.cell (p := ⟨bb, off + j * 5 + 1, none⟩) hbl).trans c1
   have y2 := (hb.cell (p := ⟨bb, off + j * 5 + 2, none⟩) hbl).trans c2
   have y3 := (hb.cell (p := ⟨bb, off + j * 5 + 3, none⟩) hbl).trans c3
   have y4 := (hb.cell (p := ⟨bb, off + j * 5 + 4, none⟩) hbl).trans c4
   obtain ⟨kn, hkn⟩ : ∃ n, kid.attrs.length = n := ⟨_, rfl⟩
   obtain ⟨kkn, hkkn⟩ : ∃ n, kid.kids.length = n := ⟨_, rfl⟩
   rw [hkn] at y2 hxk
   rw [hkkn] at y3 hxk
   have hB1 := below_alloc8 wr (.cells #[sV kid.space, sV kid.name, .slice kaA kn kac, .slice kkA kkn kkc, sV kid.text] TNo)
   have HB1 := hid (HF.out.below hB1)
   have HZ := hid (Blk.new (.cells #[sV kid.space, sV kid.name, .slice kaA kn kac, .slice kkA kkn kkc, sV kid.text] TNo) wr)
   have HNM := hid (fun V => named8_any (w := V) hxk sp nm)
   unfold BoO at HNM
   have hwk : wX kid ≤ 100000 := Nat.le_trans hwm HWK.out
   have HCK := hid (fun (W : World) (hW : Below w.heap.size w W) => clone_all 100000 (Nat.le_refl _) T kid _ W hwk (hxk.below hW))
   unfold CloO at HCK
   obtain ⟨b, hbn⟩ : ∃ b, namedX kid sp nm = b := ⟨_, rfl⟩
   rw [hbn] at HNM HST
   subst hAe
   clear c0 c1 c2 c3 c4 hll hkid hwm hb hkn hkkn hB1 hxk hbn hwk
   cases b with
   | false =>
    have HF2 : Hid (o = findK (ks.drop (j + 1)) sp nm) := hid (by rw [HQ.out, HST.out]; rfl)
    clear HQ HST HCK
    go_wp2_with (go_at_call 43; (with_reducible refine (HNM.out _).mono ?_); rintro e w2 ⟨rfl, b2⟩; have HB2 := hid (HB1.out.below b2); clear b2)
    go_roundw
    case rel => exact ⟨j + 1, by omega, by go_num, HB2, HF2⟩
    case measure => simp [RowKit.intOf]; omega
   | true =>
    have HF2 : Hid (o = some kid) := hid (by rw [HQ.out, HST.out]; rfl)
    clear HQ HST
    go_wp2_with fail
    refine (HNM.out _).mono ?_
    rintro e w2 ⟨rfl, b2⟩
    have z2 := (Off.of_below b2).blk HZ.out (fun h => h)
    have q0 := z2.cell 0
    have q1 := z2.cell 1
    have q2 := z2.cell 2
    have q3 := z2.cell 3
    have q4 := z2.cell 4
    have HB2 := hid (HB1.out.below b2)
    clear b2 z2
    go_wp2_with fail
    refine (HCK.out _ HB2.out.since).mono ?_
    rintro e w3 ⟨⟨xk, rfl, hxk⟩, b3⟩
    obtain ⟨raA, rac, rkA, rkc, rfl⟩ := xr_one hxk
    have hF3 := HB2.out.below b3
    have HB3 := hid hF3
    have HXK := hid hxk
    have HS2 := hid HB2.out.since.size
    have HR2 := hid HB2.out.res.lt
    obtain ⟨kn2, hkn⟩ : ∃ n, kid.attrs.length = n := ⟨_, rfl⟩
    obtain ⟨kkn2, hkkn⟩ : ∃ n, kid.kids.length = n := ⟨_, rfl⟩
    rw [hkn, hkkn] at HXK
    rw [hkn, hkkn]
    have r0 := hF3.res.cell 0
    have r1 := hF3.res.cell 1
    have r2 := hF3.res.cell 2
    have r3 := hF3.res.cell 3
    have r4 := hF3.res.cell 4
    have f0 := hF3.res.free 0
    have f1 := hF3.res.free 1
    have f2 := hF3.res.free 2
    have f3 := hF3.res.free 3
    have f4 := hF3.res.free 4
    clear hxk b3 hF3 hkn hkkn
    go_wp2
    have hE := five_set (a := sV kid.space) (b := sV kid.name) (c := .slice raA kn2 rac) (d := .slice rkA kkn2 rkc) (e := sV kid.text) HB3.out.res
    have d0 := hE.cell 0
    have d1 := hE.cell 1
    have d2 := hE.cell 2
    have d3 := hE.cell 3
    have d4 := hE.cell 4
    refine bodyPost_ret (v := .tuple #[.agg #[sV kid.space, sV kid.name, .slice raA kn2 rac, .slice rkA kkn2 rkc, sV kid.text], .bool true]) ?_ rfl ?_
    ·simp [results, Tryz.results20, go_sem, d0, d1, d2, d3, d4]
    have oE : Off (fun b => b = w.heap.size + 1) w3 (((((w3.setCell ⟨w.heap.size + 1, 0, none⟩ (sV kid.space)).setCell ⟨w.heap.size + 1, 1, none⟩ (sV kid.name)).setCell ⟨w.heap.size + 1, 2, none⟩ (.slice raA kn2 rac)).setCell ⟨w.heap.size + 1, 3, none⟩ (.slice rkA kkn2 rkc)).setCell ⟨w.heap.size + 1, 4, none⟩ (sV kid.text)) := ((((off_set8 _ _ _ _).then (off_set8 _ _ _ _)).then (off_set8 _ _ _ _)).then (off_set8 _ _ _ _)).then (off_set8 _ _ _ _)
    have hsz := oE.size
    have hs2 := HS2.out
    have hr2 := HR2.out
    exact FiO.yes HF2.out (XR.mono (fun b hb => ⟨by omega, Nat.lt_of_lt_of_le hb.2 hsz⟩) _ _ (XR.off oE (fun b hb e => by omega) _ _ HXK.out)) (((Off.of_below HB3.out.since).trans oE (fun b hb => .inr (by omega))).below (fun _ h => h.elim))
  ·obtain rfl : nK = j := by omega
   have hdk : ks.drop nK = [] := List.drop_of_length_le (by rw [HNK.out]; exact Nat.le_refl _)
   rw [hdk] at HQ
   have r0 := HF.out.res.cell 0
   have r1 := HF.out.res.cell 1
   have r2 := HF.out.res.cell 2
   have r3 := HF.out.res.cell 3
   have r4 := HF.out.res.cell 4
   have f0 := HF.out.res.free 0
   have f1 := HF.out.res.free 1
   have f2 := HF.out.res.free 2
   have f3 := HF.out.res.free 3
   have f4 := HF.out.res.free 4
   go_wp2
   have hE := five_set (a := .string ⟨#[]⟩) (b := .string ⟨#[]⟩) (c := .slice none 0 0) (d := .slice none 0 0) (e := .string ⟨#[]⟩) HF.out.res
   have d0 := hE.cell 0
   have d1 := hE.cell 1
   have d2 := hE.cell 2
   have d3 := hE.cell 3
   have d4 := hE.cell 4
   refine bodyPost_ret (v := .tuple #[zNV, .bool false]) ?_ rfl ?_
   ·simp [results, Tryz.results20, go_sem, d0, d1, d2, d3, d4]
   have oE : Off (fun b => b = w.heap.size + 1) wr (((((wr.setCell ⟨w.heap.size + 1, 0, none⟩ (.string ⟨#[]⟩)).setCell ⟨w.heap.size + 1, 1, none⟩ (.string ⟨#[]⟩)).setCell ⟨w.heap.size + 1, 2, none⟩ (.slice none 0 0)).setCell ⟨w.heap.size + 1, 3, none⟩ (.slice none 0 0)).setCell ⟨w.heap.size + 1, 4, none⟩ (.string ⟨#[]⟩)) := ((((off_set8 _ _ _ _).then (off_set8 _ _ _ _)).then (off_set8 _ _ _ _)).then (off_set8 _ _ _ _)).then (off_set8 _ _ _ _)
   exact FiO.no HQ.out (((Off.of_below HF.out.since).trans oE (fun b hb => .inr (by omega))).below (fun _ h => h.elim))
end Go.Proofs.YtklcjimmbkpbdaaGreatDoor
