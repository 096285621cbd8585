/-
  The walk of package link's Canon. Conditions: a link whose parts fit, its path and its query as a link's are; the library's variables hold what they are laid with.
-/
import Derived.Test.YtlgggibdgfdmhaaGreatDoorKK
import Derived.Test.YtlgggibdgfdmhaaGreatDoorKG
import Derived.Test.YtlgggibdgfdmhaaGreatDoorKE
namespace Go.Proofs.YtlgggibdgfdmhaaGreatDoor
open Go.RowKit
open Go.Lib

set_option maxRecDepth 100000 in
set_option maxHeartbeats 4000000 in
theorem canon_any (p : Lk) (w : World) (hE : Env w) (hf : Fits p) (hp : tailOk p.path = true) (hq : tailOk p.query = true) : Calls Tryz.prog 18 #[lkV p] w fun e w' => e = .returned (lkV (canonL p)) ∧ Below w.heap.size w w' := by
  have hL0 : LB w.heap.size (bs p.scheme) (bs p.host) p.port (bs p.path) (bs p.query) (bs p.frag) p.hasQ p.hasF (w.alloc (.cells #[.string (bs p.scheme), .string (bs p.host), .int .i64 p.port, .string (bs p.path), .string (bs p.query), .string (bs p.frag), .bool p.hasQ, .bool p.hasF] 24)) := Blk.new _ w
  have hL := hL0.alloc (.cells #[.string ⟨#[]⟩, .string ⟨#[]⟩, .int .i64 0, .string ⟨#[]⟩, .string ⟨#[]⟩, .string ⟨#[]⟩, .bool false, .bool false] 24)
  have hR : LZ (w.alloc (.cells #[.string (bs p.scheme), .string (bs p.host), .int .i64 p.port, .string (bs p.path), .string (bs p.query), .string (bs p.frag), .bool p.hasQ, .bool p.hasF] 24)).heap.size ((w.alloc (.cells #[.string (bs p.scheme), .string (bs p.host), .int .i64 p.port, .string (bs p.path), .string (bs p.query), .string (bs p.frag), .bool p.hasQ, .bool p.hasF] 24)).alloc (.cells #[.string ⟨#[]⟩, .string ⟨#[]⟩, .int .i64 0, .string ⟨#[]⟩, .string ⟨#[]⟩, .string ⟨#[]⟩, .bool false, .bool false] 24)) := Blk.new _ _
  rw [show (w.alloc (.cells #[.string (bs p.scheme), .string (bs p.host), .int .i64 p.port, .string (bs p.path), .string (bs p.query), .string (bs p.frag), .bool p.hasQ, .bool p.hasF] 24)).heap.size = w.heap.size + 1 by simp] at hR
  have B0 : Below w.heap.size w ((w.alloc (.cells #[.string (bs p.scheme), .string (bs p.host), .int .i64 p.port, .string (bs p.path), .string (bs p.query), .string (bs p.frag), .bool p.hasQ, .bool p.hasF] 24)).alloc (.cells #[.string ⟨#[]⟩, .string ⟨#[]⟩, .int .i64 0, .string ⟨#[]⟩, .string ⟨#[]⟩, .string ⟨#[]⟩, .bool false, .bool false] 24)) := ((Below.refl _ _).alloc (Nat.le_refl _) _).alloc (by simp) _
  have z1 : (bs p.scheme).size ≤ 100000 := by rw [bs_size]; exact hf.sch
  have z2 : (bs p.host).size ≤ 100000 := by rw [bs_size]; exact hf.host
  have hsm1 := small_any (bs p.scheme) ((w.alloc (.cells #[.string (bs p.scheme), .string (bs p.host), .int .i64 p.port, .string (bs p.path), .string (bs p.query), .string (bs p.frag), .bool p.hasQ, .bool p.hasF] 24)).alloc (.cells #[.string ⟨#[]⟩, .string ⟨#[]⟩, .int .i64 0, .string ⟨#[]⟩, .string ⟨#[]⟩, .string ⟨#[]⟩, .bool false, .bool false] 24)) (by omega)
  have hsm2 := fun W => small_any (bs p.host) W (by omega)
  have hcq := fun W hW => canonQuery_any (bs p.query) W hW (by rw [bs_size]; exact hf.query) (by rw [bs_list]; exact hq)
  have hpa := fun W hW => canonPath_any (bs p.path) W hW (by rw [bs_size]; exact hf.path) (by rw [bs_list]; exact hp)
  have hpt := fun W => canonPort_any (bs (smallL p.scheme)) p.port W hf.port
  rw [bs_list] at hsm1 hsm2 hcq hpa hpt
  have HCN := Lib.hid (show lkV (canonL p) = aggV (bs (smallL p.scheme)) (bs (smallL p.host)) (cportL (smallL p.scheme) p.port) (bs (cpathL p.path)) (bs (cqueryL p.query)) (bs []) (p.hasQ && !(cqueryL p.query).isEmpty) false from rfl)
  have HEM := Lib.hid (show ((bs (cqueryL p.query)).toList != ([] : List UInt8)) = !(cqueryL p.query).isEmpty by rw [bne, eqS, bs_list]; cases cqueryL p.query <;> rfl)
  have hEb := hE.below B0
  unfold lkV aggV
  generalize hS1 : bs (smallL p.scheme) = S1 at *
  generalize hS2 : bs (smallL p.host) = S2 at *
  generalize hPN : ((cportL (smallL p.scheme) p.port : Nat) : Int) = PN at *
  generalize hS3 : bs (cpathL p.path) = S3 at *
  generalize hS4 : bs (cqueryL p.query) = S4 at *
  clear hS1 hS2 hPN hS3 hS4 hL0
  have hc0 := hL.c0
  have hz0 : ((w.alloc (.cells #[.string (bs p.scheme), .string (bs p.host), .int .i64 p.port, .string (bs p.path), .string (bs p.query), .string (bs p.frag), .bool p.hasQ, .bool p.hasF] 24)).alloc (.cells #[.string ⟨#[]⟩, .string ⟨#[]⟩, .int .i64 0, .string ⟨#[]⟩, .string ⟨#[]⟩, .string ⟨#[]⟩, .bool false, .bool false] 24)).heap.size = w.heap.size + 2 := by simp
  have HZ0 := Lib.hid hz0
  clear hz0
  go_enter Tryz.func18, Tryz.ntmps18
  go_wp2_with fail
  refine hsm1.mono ?_
  clear hsm1
  rintro e w1 ⟨rfl, b1⟩
  have hL1 := hL.below b1
  have hR1 : LZ (w.heap.size + 1) w1 := LB.below hR b1
  have B1 : Below w.heap.size w w1 := B0.trans (b1.mono (by rw [HZ0.out]; omega))
  have hE1 := hEb.below b1
  clear hL hR B0 b1 hEb hc0 HZ0
  have hc4 := hL1.c4
  have hcq1 := hcq w1 hE1
  clear hcq
  go_wp2_with fail
  refine hcq1.mono ?_
  clear hcq1
  rintro e w2' ⟨rfl, b2⟩
  have hL2 := (hL1.below b2).drew
  have hR2 : LZ (w.heap.size + 1) w2'.drew := LB.drew (LB.below hR1 b2)
  have B2' : Below w.heap.size w w2' := B1.trans (b2.mono B1.size)
  have hE2' := hE1.below b2
  clear hL1 hR1 B1 b2 hE1 hc4
  have B2 : Below w.heap.size w w2'.drew := B2'.trans ⟨rfl, rfl, rfl, Nat.le_refl _, fun _ _ => rfl⟩
  have hE2 : Env w2'.drew := hE2'.below ⟨rfl, rfl, rfl, Nat.le_refl _, fun _ _ => rfl⟩
  have SCall := Lib.hid (show ∀ W W' : World, (LB w.heap.size (bs p.scheme) (bs p.host) p.port (bs p.path) (bs p.query) (bs p.frag) p.hasQ p.hasF W ∧ (∃ r0 r1 r2 r3 r4 r5 r6 r7, LB (w.heap.size + 1) r0 r1 r2 r3 r4 r5 r6 r7 W) ∧ Below w.heap.size w W) → Below W.heap.size W W' → (LB w.heap.size (bs p.scheme) (bs p.host) p.port (bs p.path) (bs p.query) (bs p.frag) p.hasQ p.hasF W' ∧ (∃ r0 r1 r2 r3 r4 r5 r6 r7, LB (w.heap.size + 1) r0 r1 r2 r3 r4 r5 r6 r7 W') ∧ Below w.heap.size w W') from
    fun W W' ⟨h1, ⟨r0, r1, r2, r3, r4, r5, r6, r7, h2⟩, h3⟩ hb => ⟨LB.below h1 hb, ⟨r0, r1, r2, r3, r4, r5, r6, r7, LB.below h2 hb⟩, h3.trans (hb.mono h3.size)⟩)
  have hKeep := Lib.hid (show ∀ (W : World) {r0 r1 : ByteArray} {r2 : Int} {r3 r4 r5 : ByteArray} {r6 r7 : Bool}, (LB w.heap.size (bs p.scheme) (bs p.host) p.port (bs p.path) (bs p.query) (bs p.frag) p.hasQ p.hasF W ∧ LB (w.heap.size + 1) r0 r1 r2 r3 r4 r5 r6 r7 W ∧ Below w.heap.size w W) → (LB w.heap.size (bs p.scheme) (bs p.host) p.port (bs p.path) (bs p.query) (bs p.frag) p.hasQ p.hasF W ∧ (∃ r0 r1 r2 r3 r4 r5 r6 r7, LB (w.heap.size + 1) r0 r1 r2 r3 r4 r5 r6 r7 W) ∧ Below w.heap.size w W) from
    fun W _ _ _ _ _ _ _ _ h => ⟨h.1, ⟨_, _, _, _, _, _, _, _, h.2.1⟩, h.2.2⟩)
  have hHeld0 := hKeep.out _ ⟨hL2, hR2, B2⟩
  cases hhq : p.hasQ with
  | false =>
    rw [hhq] at hHeld0 SCall hKeep
    obtain ⟨HQ, hHQ⟩ : ∃ HQ, HQ = false := ⟨_, rfl⟩
    have HOUT := Lib.hid (show Ending.returned (.agg #[.string S1, .string S2, .int .i64 PN, .string S3, .string S4, .string ⟨#[]⟩, .bool false, .bool false]) = .returned (lkV (canonL p)) by rw [HCN.out, hhq]; rfl)
    clear hHQ HQ hhq hL2
    go_wp2_with fail
    refine wp_region_held_drew (S := fun W => LB w.heap.size (bs p.scheme) (bs p.host) p.port (bs p.path) (bs p.query) (bs p.frag) false p.hasF W ∧ (∃ r0 r1 r2 r3 r4 r5 r6 r7, LB (w.heap.size + 1) r0 r1 r2 r3 r4 r5 r6 r7 W) ∧ Below w.heap.size w W) (by kernel_rfl) hHeld0 (fun hHeld => ?_)
    refine wpAnyH_take (i := 0) (v := ?v1) rfl (by kernel_rfl) (by kernel_rfl) (by kernel_rfl) (fun _ _ _ h => h) (Or.inl ⟨by rfl, ?y1⟩) (by assumption) ?r1
    case y1 => (intro W hSw; go_simp <;> with_reducible rfl)
    change wpAnyH _ _ _ _ _ _ _ (Act.put _ (some 11) _) _
    simp only [Act.put, List.setIfInBounds_toArray, List.set_cons_zero, List.set_cons_succ]
    refine wpAnyH_take (i := 1) (v := ?v2) rfl (by kernel_rfl) (by kernel_rfl) (by kernel_rfl) (fun _ _ _ h => h) (Or.inl ⟨by rfl, ?y2⟩) (by assumption) ?r2
    case y2 => (intro W hSw; go_simp <;> with_reducible rfl)
    change wpAnyH _ _ _ _ _ _ _ (Act.put _ (some 12) _) _
    simp only [Act.put, List.setIfInBounds_toArray, List.set_cons_zero, List.set_cons_succ]
    refine wpAnyH_take (i := 2) (v := ?v3) rfl (by kernel_rfl) (by kernel_rfl) (by kernel_rfl) (fun _ _ _ h => h) (Or.inl ⟨by rfl, ?y3⟩) (by assumption) ?r3
    case y3 => (intro W hSw; have hc := LB.c1 hSw.1; go_simp <;> with_reducible rfl)
    change wpAnyH _ _ _ _ _ _ _ (Act.put _ (some 13) _) _
    simp only [Act.put, List.setIfInBounds_toArray, List.set_cons_zero, List.set_cons_succ]
    refine wpAnyH_take (i := 4) (v := ?v4) rfl (by kernel_rfl) (by kernel_rfl) (by kernel_rfl) (fun _ _ _ h => h) (Or.inl ⟨by rfl, ?y4⟩) (by assumption) ?r4
    case y4 => (intro W hSw; go_simp <;> with_reducible rfl)
    change wpAnyH _ _ _ _ _ _ _ (Act.put _ (some 15) _) _
    simp only [Act.put, List.setIfInBounds_toArray, List.set_cons_zero, List.set_cons_succ]
    refine wpAnyH_take (i := 5) (v := ?v5) rfl (by kernel_rfl) (by kernel_rfl) (by kernel_rfl) (fun _ _ _ h => h) (Or.inl ⟨by rfl, ?y5⟩) (by assumption) ?r5
    case y5 => (intro W hSw; go_simp <;> with_reducible rfl)
    change wpAnyH _ _ _ _ _ _ _ (Act.put _ (some 16) _) _
    simp only [Act.put, List.setIfInBounds_toArray, List.set_cons_zero, List.set_cons_succ]
    refine wpAnyH_take (i := 6) (v := ?v6) rfl (by kernel_rfl) (by kernel_rfl) (by kernel_rfl) (fun _ _ _ h => h) (Or.inl ⟨by rfl, ?y6⟩) (by assumption) ?r6
    case y6 => (intro W hSw; have hc := LB.c2 hSw.1; go_simp <;> with_reducible rfl)
    change wpAnyH _ _ _ _ _ _ _ (Act.put _ (some 17) _) _
    simp only [Act.put, List.setIfInBounds_toArray, List.set_cons_zero, List.set_cons_succ]
    refine wpAnyH_take (i := 8) (v := ?v7) rfl (by kernel_rfl) (by kernel_rfl) (by kernel_rfl) (fun _ _ _ h => h) (Or.inl ⟨by rfl, ?y7⟩) (by assumption) ?r7
    case y7 => (intro W hSw; go_simp <;> with_reducible rfl)
    change wpAnyH _ _ _ _ _ _ _ (Act.put _ (some 19) _) _
    simp only [Act.put, List.setIfInBounds_toArray, List.set_cons_zero, List.set_cons_succ]
    refine wpAnyH_take (i := 9) (v := ?v8) rfl (by kernel_rfl) (by kernel_rfl) (by kernel_rfl) (fun _ _ _ h => h) (Or.inl ⟨by rfl, ?y8⟩) (by assumption) ?r8
    case y8 => (intro W hSw; have hc := LB.c3 hSw.1; go_simp <;> with_reducible rfl)
    change wpAnyH _ _ _ _ _ _ _ (Act.put _ (some 20) _) _
    simp only [Act.put, List.setIfInBounds_toArray, List.set_cons_zero, List.set_cons_succ]
    refine wpAnyH_take (i := 11) (v := ?v9) rfl (by kernel_rfl) (by kernel_rfl) (by kernel_rfl) (fun _ _ _ h => h) (Or.inl ⟨by rfl, ?y9⟩) (by assumption) ?r9
    case y9 => (intro W hSw; go_simp <;> with_reducible rfl)
    change wpAnyH _ _ _ _ _ _ _ (Act.put _ (some 22) _) _
    simp only [Act.put, List.setIfInBounds_toArray, List.set_cons_zero, List.set_cons_succ]
    refine wpAnyH_take (i := 12) (v := ?v10) rfl (by kernel_rfl) (by kernel_rfl) (by kernel_rfl) (fun _ _ _ h => h) (Or.inl ⟨by rfl, ?y10⟩) (by assumption) ?r10
    case y10 => (intro W hSw; go_simp <;> with_reducible rfl)
    change wpAnyH _ _ _ _ _ _ _ (Act.put _ (some 23) _) _
    simp only [Act.put, List.setIfInBounds_toArray, List.set_cons_zero, List.set_cons_succ]
    refine wpAnyH_take (i := 13) (v := ?v11) rfl (by kernel_rfl) (by kernel_rfl) (by kernel_rfl) (fun _ _ _ h => h) (Or.inl ⟨by rfl, ?y11⟩) (by assumption) ?r11
    case y11 => (intro W hSw; have hc := LB.c6 hSw.1; go_simp <;> with_reducible rfl)
    change wpAnyH _ _ _ _ _ _ _ (Act.put _ (some 24) _) _
    simp only [Act.put, List.setIfInBounds_toArray, List.set_cons_zero, List.set_cons_succ]
    refine wpAnyH_ready (rs := [3]) (by kernel_rfl) (by simp) ?_
    refine AllReadyH.cons rfl (fun K hK => ?_) AllReadyH.nil
    go_simp
    refine (hsm2 _).mono ?_
    rintro e w3 ⟨rfl, b3⟩
    refine hK.out _ _ (SCall.out _ _ hHeld b3) (fun hH3 => ?_)
    clear hK K
    refine wpAnyH_ready (rs := [7]) (by kernel_rfl) (by simp) ?_
    refine AllReadyH.cons rfl (fun K hK => ?_) AllReadyH.nil
    go_simp
    refine (hpt _).mono ?_
    rintro e w4 ⟨rfl, rfl⟩
    refine hK.out _ _ hH3 (fun hH7 => ?_)
    clear hK K
    have hpa3 := hpa w3 (hE.below hH3.2.2)
    refine wpAnyH_ready (rs := [10]) (by kernel_rfl) (by simp) ?_
    refine AllReadyH.cons rfl (fun K hK => ?_) AllReadyH.nil
    go_simp
    refine hpa3.mono ?_
    rintro e w5 ⟨rfl, b5⟩
    refine hK.out _ _ (SCall.out _ _ hH3 b5) (fun hHK => ?_)
    clear hK K
    clear hHeld hH3 hH7
    refine wpAnyH_take (i := 14) (v := ?v12) rfl (by kernel_rfl) (by kernel_rfl) (by kernel_rfl) (fun _ _ _ h => h) (Or.inl ⟨by rfl, ?y12⟩) (by assumption) ?r12
    case y12 => (intro W hSw; go_simp <;> with_reducible rfl)
    change wpAnyH _ _ _ _ _ _ _ (Act.put _ (some 25) _) _
    simp only [Act.put, List.setIfInBounds_toArray, List.set_cons_zero, List.set_cons_succ]
    refine wpAnyH_take (i := 15) (v := undef) rfl (by kernel_rfl) (by kernel_rfl) (by kernel_rfl) (fun _ _ _ h => h) (Or.inr ⟨by rfl, rfl⟩) (by assumption) ?_
    change wpAnyH _ _ _ _ _ _ _ (Act.put _ (some 26) _) _
    simp only [Act.put, List.setIfInBounds_toArray, List.set_cons_zero, List.set_cons_succ]
    refine wpAnyH_take (i := 16) (v := undef) rfl (by kernel_rfl) (by kernel_rfl) (by kernel_rfl) (fun _ _ _ h => h) (Or.inr ⟨by rfl, rfl⟩) (by assumption) ?_
    change wpAnyH _ _ _ _ _ _ _ (Act.put _ (some 27) _) _
    simp only [Act.put, List.setIfInBounds_toArray, List.set_cons_zero, List.set_cons_succ]
    refine wpAnyH_take (i := 17) (v := ?v13) rfl (by kernel_rfl) (by kernel_rfl) (by kernel_rfl) (fun _ _ _ h => h) (Or.inl ⟨by rfl, ?y13⟩) (by assumption) ?r13
    case y13 => (intro W hSw; go_simp <;> with_reducible rfl)
    change wpAnyH _ _ _ _ _ _ _ (Act.put _ (some 28) _) _
    simp only [Act.put, List.setIfInBounds_toArray, List.set_cons_zero, List.set_cons_succ]
    refine wpAnyH_take (i := 18) (v := ?v14) rfl (by kernel_rfl) (by kernel_rfl) (by kernel_rfl) (fun _ _ _ h => h) (Or.inl ⟨by rfl, ?y14⟩) (by assumption) ?r14
    case y14 => (intro W hSw; go_simp <;> with_reducible rfl)
    change wpAnyH _ _ _ _ _ _ _ (Act.put _ (some 29) _) _
    simp only [Act.put, List.setIfInBounds_toArray, List.set_cons_zero, List.set_cons_succ]
    obtain ⟨hH10a, ⟨r0, r1, r2, r3, r4, r5, r6, r7, hH10b⟩, hH10c⟩ := hHK
    have hH10 := And.intro hH10a (And.intro hH10b hH10c)
    refine wpAnyH_ready (rs := [19]) (by kernel_rfl) (by simp) ?_
    refine AllReadyH.cons rfl (fun K hK => ?_) AllReadyH.nil
    have hRR := LB.stored hH10.2.1 S1 S2 PN S3 S4 ⟨#[]⟩ false false
    have gz := grown_sets (w.heap.size + 1) [.string S1, .string S2, .int .i64 PN, .string S3, .string S4, .string ⟨#[]⟩, .bool false, .bool false] 0 w5
    have BZ : Below w.heap.size w (w5.setCells (w.heap.size + 1) 0 [.string S1, .string S2, .int .i64 PN, .string S3, .string S4, .string ⟨#[]⟩, .bool false, .bool false]) := hH10.2.2.grown gz (by have := hH10.2.2.size; omega) (fun k hk => by injection hk with hk; omega)
    refine wp_store_mid _ _ _ rfl (w.heap.size + 1) 0 #[.string S1, .string S2, .int .i64 PN, .string S3, .string S4, .string ⟨#[]⟩, .bool false, .bool false] rfl rfl (LB.there hH10.2.1) (by kernel_rfl) (one8 _ _ _ _ _ _ _ _) ?_
    refine hK.out _ _ ⟨LB.grown hH10.1 gz (by simp), ⟨_, _, _, _, _, _, _, _, hRR⟩, hH10.2.2.grown gz (by have := hH10.2.2.size; omega) (fun k hk => by injection hk with hk; omega)⟩ (fun hHz => ?_)
    clear hK K
    refine wpAnyH_done (by kernel_rfl) ?_ _
    generalize w5.setCells (w.heap.size + 1) 0 [.string S1, .string S2, .int .i64 PN, .string S3, .string S4, .string ⟨#[]⟩, .bool false, .bool false] = wz at *
    go_wp2
    exact bodyPost_ret (by simp [results, Tryz.results18, go_sem, LB.c0 hRR, LB.c1 hRR, LB.c2 hRR, LB.c3 hRR, LB.c4 hRR, LB.c5 hRR, LB.c6 hRR, LB.c7 hRR]) rfl ⟨HOUT.out, BZ⟩
  | true =>
    rw [hhq] at hHeld0 SCall hKeep
    obtain ⟨HQ, hHQ⟩ : ∃ HQ, HQ = (!S4.toList.isEmpty) := ⟨_, rfl⟩
    have HOUT := Lib.hid (show Ending.returned (.agg #[.string S1, .string S2, .int .i64 PN, .string S3, .string S4, .string ⟨#[]⟩, .bool HQ, .bool false]) = .returned (lkV (canonL p)) by rw [HCN.out, hHQ, show (!S4.toList.isEmpty) = (S4.toList != ([] : List UInt8)) by cases S4.toList <;> rfl, HEM.out, hhq]; rfl)
    have hHQ2 : (!S4.toList.isEmpty) = HQ := hHQ.symm
    have hHQ3 : (S4.toList != ([] : List UInt8)) = HQ := by rw [← hHQ2]; cases S4.toList <;> rfl
    clear hHQ hhq hL2
    go_wp2_with fail
    refine wp_region_held_drew (S := fun W => LB w.heap.size (bs p.scheme) (bs p.host) p.port (bs p.path) (bs p.query) (bs p.frag) true p.hasF W ∧ (∃ r0 r1 r2 r3 r4 r5 r6 r7, LB (w.heap.size + 1) r0 r1 r2 r3 r4 r5 r6 r7 W) ∧ Below w.heap.size w W) (by kernel_rfl) hHeld0 (fun hHeld => ?_)
    refine wpAnyH_take (i := 0) (v := ?v15) rfl (by kernel_rfl) (by kernel_rfl) (by kernel_rfl) (fun _ _ _ h => h) (Or.inl ⟨by rfl, ?y15⟩) (by assumption) ?r15
    case y15 => (intro W hSw; go_simp <;> with_reducible rfl)
    change wpAnyH _ _ _ _ _ _ _ (Act.put _ (some 11) _) _
    simp only [Act.put, List.setIfInBounds_toArray, List.set_cons_zero, List.set_cons_succ]
    refine wpAnyH_take (i := 1) (v := ?v16) rfl (by kernel_rfl) (by kernel_rfl) (by kernel_rfl) (fun _ _ _ h => h) (Or.inl ⟨by rfl, ?y16⟩) (by assumption) ?r16
    case y16 => (intro W hSw; go_simp <;> with_reducible rfl)
    change wpAnyH _ _ _ _ _ _ _ (Act.put _ (some 12) _) _
    simp only [Act.put, List.setIfInBounds_toArray, List.set_cons_zero, List.set_cons_succ]
    refine wpAnyH_take (i := 2) (v := ?v17) rfl (by kernel_rfl) (by kernel_rfl) (by kernel_rfl) (fun _ _ _ h => h) (Or.inl ⟨by rfl, ?y17⟩) (by assumption) ?r17
    case y17 => (intro W hSw; have hc := LB.c1 hSw.1; go_simp <;> with_reducible rfl)
    change wpAnyH _ _ _ _ _ _ _ (Act.put _ (some 13) _) _
    simp only [Act.put, List.setIfInBounds_toArray, List.set_cons_zero, List.set_cons_succ]
    refine wpAnyH_take (i := 4) (v := ?v18) rfl (by kernel_rfl) (by kernel_rfl) (by kernel_rfl) (fun _ _ _ h => h) (Or.inl ⟨by rfl, ?y18⟩) (by assumption) ?r18
    case y18 => (intro W hSw; go_simp <;> with_reducible rfl)
    change wpAnyH _ _ _ _ _ _ _ (Act.put _ (some 15) _) _
    simp only [Act.put, List.setIfInBounds_toArray, List.set_cons_zero, List.set_cons_succ]
    refine wpAnyH_take (i := 5) (v := ?v19) rfl (by kernel_rfl) (by kernel_rfl) (by kernel_rfl) (fun _ _ _ h => h) (Or.inl ⟨by rfl, ?y19⟩) (by assumption) ?r19
    case y19 => (intro W hSw; go_simp <;> with_reducible rfl)
    change wpAnyH _ _ _ _ _ _ _ (Act.put _ (some 16) _) _
    simp only [Act.put, List.setIfInBounds_toArray, List.set_cons_zero, List.set_cons_succ]
    refine wpAnyH_take (i := 6) (v := ?v20) rfl (by kernel_rfl) (by kernel_rfl) (by kernel_rfl) (fun _ _ _ h => h) (Or.inl ⟨by rfl, ?y20⟩) (by assumption) ?r20
    case y20 => (intro W hSw; have hc := LB.c2 hSw.1; go_simp <;> with_reducible rfl)
    change wpAnyH _ _ _ _ _ _ _ (Act.put _ (some 17) _) _
    simp only [Act.put, List.setIfInBounds_toArray, List.set_cons_zero, List.set_cons_succ]
    refine wpAnyH_take (i := 8) (v := ?v21) rfl (by kernel_rfl) (by kernel_rfl) (by kernel_rfl) (fun _ _ _ h => h) (Or.inl ⟨by rfl, ?y21⟩) (by assumption) ?r21
    case y21 => (intro W hSw; go_simp <;> with_reducible rfl)
    change wpAnyH _ _ _ _ _ _ _ (Act.put _ (some 19) _) _
    simp only [Act.put, List.setIfInBounds_toArray, List.set_cons_zero, List.set_cons_succ]
    refine wpAnyH_take (i := 9) (v := ?v22) rfl (by kernel_rfl) (by kernel_rfl) (by kernel_rfl) (fun _ _ _ h => h) (Or.inl ⟨by rfl, ?y22⟩) (by assumption) ?r22
    case y22 => (intro W hSw; have hc := LB.c3 hSw.1; go_simp <;> with_reducible rfl)
    change wpAnyH _ _ _ _ _ _ _ (Act.put _ (some 20) _) _
    simp only [Act.put, List.setIfInBounds_toArray, List.set_cons_zero, List.set_cons_succ]
    refine wpAnyH_take (i := 11) (v := ?v23) rfl (by kernel_rfl) (by kernel_rfl) (by kernel_rfl) (fun _ _ _ h => h) (Or.inl ⟨by rfl, ?y23⟩) (by assumption) ?r23
    case y23 => (intro W hSw; go_simp <;> with_reducible rfl)
    change wpAnyH _ _ _ _ _ _ _ (Act.put _ (some 22) _) _
    simp only [Act.put, List.setIfInBounds_toArray, List.set_cons_zero, List.set_cons_succ]
    refine wpAnyH_take (i := 12) (v := ?v24) rfl (by kernel_rfl) (by kernel_rfl) (by kernel_rfl) (fun _ _ _ h => h) (Or.inl ⟨by rfl, ?y24⟩) (by assumption) ?r24
    case y24 => (intro W hSw; go_simp <;> with_reducible rfl)
    change wpAnyH _ _ _ _ _ _ _ (Act.put _ (some 23) _) _
    simp only [Act.put, List.setIfInBounds_toArray, List.set_cons_zero, List.set_cons_succ]
    refine wpAnyH_take (i := 13) (v := ?v25) rfl (by kernel_rfl) (by kernel_rfl) (by kernel_rfl) (fun _ _ _ h => h) (Or.inl ⟨by rfl, ?y25⟩) (by assumption) ?r25
    case y25 => (intro W hSw; have hc := LB.c6 hSw.1; go_simp <;> with_reducible rfl)
    change wpAnyH _ _ _ _ _ _ _ (Act.put _ (some 24) _) _
    simp only [Act.put, List.setIfInBounds_toArray, List.set_cons_zero, List.set_cons_succ]
    refine wpAnyH_ready (rs := [3]) (by kernel_rfl) (by simp) ?_
    refine AllReadyH.cons rfl (fun K hK => ?_) AllReadyH.nil
    go_simp
    refine (hsm2 _).mono ?_
    rintro e w3 ⟨rfl, b3⟩
    refine hK.out _ _ (SCall.out _ _ hHeld b3) (fun hH3 => ?_)
    clear hK K
    refine wpAnyH_ready (rs := [7]) (by kernel_rfl) (by simp) ?_
    refine AllReadyH.cons rfl (fun K hK => ?_) AllReadyH.nil
    go_simp
    refine (hpt _).mono ?_
    rintro e w4 ⟨rfl, rfl⟩
    refine hK.out _ _ hH3 (fun hH7 => ?_)
    clear hK K
    have hpa3 := hpa w3 (hE.below hH3.2.2)
    refine wpAnyH_ready (rs := [10]) (by kernel_rfl) (by simp) ?_
    refine AllReadyH.cons rfl (fun K hK => ?_) AllReadyH.nil
    go_simp
    refine hpa3.mono ?_
    rintro e w5 ⟨rfl, b5⟩
    refine hK.out _ _ (SCall.out _ _ hH3 b5) (fun hHK => ?_)
    clear hK K
    clear hHeld hH3 hH7
    refine wpAnyH_take (i := 14) (v := ?v26) rfl (by kernel_rfl) (by kernel_rfl) (by kernel_rfl) (fun _ _ _ h => h) (Or.inl ⟨by rfl, ?y26⟩) (by assumption) ?r26
    case y26 => (intro W hSw; go_simp <;> with_reducible rfl)
    change wpAnyH _ _ _ _ _ _ _ (Act.put _ (some 25) _) _
    simp only [Act.put, List.setIfInBounds_toArray, List.set_cons_zero, List.set_cons_succ]
    refine wpAnyH_take (i := 15) (v := ?v27) rfl (by kernel_rfl) (by kernel_rfl) (by kernel_rfl) (fun _ _ _ h => h) (Or.inl ⟨by rfl, ?y27⟩) (by assumption) ?r27
    case y27 => (intro W hSw; go_simp <;> with_reducible rfl)
    change wpAnyH _ _ _ _ _ _ _ (Act.put _ (some 26) _) _
    simp only [Act.put, List.setIfInBounds_toArray, List.set_cons_zero, List.set_cons_succ]
    refine wpAnyH_take (i := 16) (v := ?v28) rfl (by kernel_rfl) (by kernel_rfl) (by kernel_rfl) (fun _ _ _ h => h) (Or.inl ⟨by rfl, ?y28⟩) (by assumption) ?r28
    case y28 => (intro W hSw; go_simp <;> with_reducible rfl)
    change wpAnyH _ _ _ _ _ _ _ (Act.put _ (some 27) _) _
    simp only [Act.put, List.setIfInBounds_toArray, List.set_cons_zero, List.set_cons_succ]
    refine wpAnyH_take (i := 17) (v := ?v29) rfl (by kernel_rfl) (by kernel_rfl) (by kernel_rfl) (fun _ _ _ h => h) (Or.inl ⟨by rfl, ?y29⟩) (by assumption) ?r29
    case y29 => (intro W hSw; go_simp <;> with_reducible rfl)
    change wpAnyH _ _ _ _ _ _ _ (Act.put _ (some 28) _) _
    simp only [Act.put, List.setIfInBounds_toArray, List.set_cons_zero, List.set_cons_succ]
    refine wpAnyH_take (i := 18) (v := ?v30) rfl (by kernel_rfl) (by kernel_rfl) (by kernel_rfl) (fun _ _ _ h => h) (Or.inl ⟨by rfl, ?y30⟩) (by assumption) ?r30
    case y30 => (intro W hSw; go_simp <;> with_reducible rfl)
    change wpAnyH _ _ _ _ _ _ _ (Act.put _ (some 29) _) _
    simp only [Act.put, List.setIfInBounds_toArray, List.set_cons_zero, List.set_cons_succ]
    obtain ⟨hH10a, ⟨r0, r1, r2, r3, r4, r5, r6, r7, hH10b⟩, hH10c⟩ := hHK
    have hH10 := And.intro hH10a (And.intro hH10b hH10c)
    refine wpAnyH_ready (rs := [19]) (by kernel_rfl) (by simp) ?_
    refine AllReadyH.cons rfl (fun K hK => ?_) AllReadyH.nil
    have hRR := LB.stored hH10.2.1 S1 S2 PN S3 S4 ⟨#[]⟩ HQ false
    have gz := grown_sets (w.heap.size + 1) [.string S1, .string S2, .int .i64 PN, .string S3, .string S4, .string ⟨#[]⟩, .bool HQ, .bool false] 0 w5
    have BZ : Below w.heap.size w (w5.setCells (w.heap.size + 1) 0 [.string S1, .string S2, .int .i64 PN, .string S3, .string S4, .string ⟨#[]⟩, .bool HQ, .bool false]) := hH10.2.2.grown gz (by have := hH10.2.2.size; omega) (fun k hk => by injection hk with hk; omega)
    refine wp_store_mid _ _ _ rfl (w.heap.size + 1) 0 #[.string S1, .string S2, .int .i64 PN, .string S3, .string S4, .string ⟨#[]⟩, .bool HQ, .bool false] rfl rfl (LB.there hH10.2.1) (by kernel_rfl) (one8 _ _ _ _ _ _ _ _) ?_
    refine hK.out _ _ ⟨LB.grown hH10.1 gz (by simp), ⟨_, _, _, _, _, _, _, _, hRR⟩, hH10.2.2.grown gz (by have := hH10.2.2.size; omega) (fun k hk => by injection hk with hk; omega)⟩ (fun hHz => ?_)
    clear hK K
    refine wpAnyH_done (by kernel_rfl) ?_ _
    generalize w5.setCells (w.heap.size + 1) 0 [.string S1, .string S2, .int .i64 PN, .string S3, .string S4, .string ⟨#[]⟩, .bool HQ, .bool false] = wz at *
    go_wp2
    exact bodyPost_ret (by simp [results, Tryz.results18, go_sem, LB.c0 hRR, LB.c1 hRR, LB.c2 hRR, LB.c3 hRR, LB.c4 hRR, LB.c5 hRR, LB.c6 hRR, LB.c7 hRR]) rfl ⟨HOUT.out, BZ⟩
end Go.Proofs.YtlgggibdgfdmhaaGreatDoor
