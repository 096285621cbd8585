/-
  The walk of the document's offset of layer 3. Conditions: as it says.
-/
import Derived.Test.YtocmppafmaehcaaDoorRD
import Derived.Test.YtocmppafmaehcaaDoorLB
namespace Go.Proofs.YtocmppafmaehcaaDoor
open Go.RowKit
open Go.Lib

theorem slice_mid (l r : List UInt8) (i k : Nat) (hi : i ≤ k) (hk : k ≤ l.length) (e : (l.drop i).take (k - i) = r) (W : World) : (Instr.slice 9 (.string ⟨l.toArray⟩) (some (.int .i64 (i : Int))) (some (.int .i64 (k : Int))) none).run Tryd.prog W = .ok (.string ⟨r.toArray⟩) W :=
  (run_slice_string W 9 _ .i64 .i64 (i : Int) (k : Int) Tryd.underlying9 (by omega) (by omega) (by show (k : Int) ≤ (l.toArray.size : Int); simpa using hk)).trans (by
    congr 2
    refine bytes_eq _ _ ?_
    rw [show ((i : Int)).toNat = i from by omega, show ((k : Int)).toNat = k from by omega, ← e]
    simp [ByteArray.data_extract])
def BoolB (v : Bool) (w : World) (e : Ending) (w' : World) : Prop := e = .returned (.bool v) ∧ Below w.heap.size w w'
theorem rlikeB (s p : List UInt8) (w : World) (hs : s.length ≤ 1000) (hp : p.length ≤ 1000) : Calls Tryd.prog 27 #[.string ⟨s.toArray⟩, .string ⟨p.toArray⟩] w (BoolB (likeP s p) w) :=
  (rlike_any ⟨s.toArray⟩ ⟨p.toArray⟩ w (by rw [size_list]; exact hs) (by rw [size_list]; exact hp)).mono fun _ _ ⟨h, n, e⟩ => ⟨h, e ▸ below_drewN (Below.refl _ _) n⟩
theorem rdigQ (s : ByteArray) (w : World) (hs : s.size ≤ 9) : Calls Tryd.prog 28 #[.string s] w fun e w' => e = .returned (.int .i64 (digP s.data.toList)) ∧ w' = w :=
  (rdigits_any s w hs).mono fun _ _ ⟨h, e⟩ => ⟨h, e.symm⟩
def OffOut (l colon : List UInt8) (w : World) (e : Ending) (w' : World) : Prop :=
  ∃ v ok, e = .returned (.tuple #[.int .i64 v, .bool ok]) ∧ (ok = true → offP l colon = some v) ∧ (ok = false → offP l colon = none) ∧ Below w.heap.size w w' ∧ (-1000000 ≤ v ∧ v ≤ 1000000)
theorem off_form {l colon : List UInt8} (hc : colon = [58] ∨ colon = []) {sg : UInt8} (hsg : sg ≠ 57) (h : likeP l (([sg, 57, 57] ++ colon) ++ [57, 57]) = true) : ∃ H M, Dg 2 H ∧ Dg 2 M ∧ l = sg :: (H ++ (colon ++ M)) := by
  rcases hc with rfl | rfl
  · obtain ⟨s1, e1, h1⟩ := like_c_inv hsg h
    obtain ⟨H, s2, dH, e2, h2⟩ := like_2_inv h1
    obtain ⟨s3, e3, h3⟩ := like_c_inv (by decide) h2
    obtain ⟨M, s4, dM, e4, h4⟩ := like_2_inv h3
    rw [like_nil h4, List.append_nil] at e4
    exact ⟨H, M, dH, dM, by rw [e1, e2, e3, e4]; rfl⟩
  · obtain ⟨s1, e1, h1⟩ := like_c_inv hsg h
    obtain ⟨H, s2, dH, e2, h2⟩ := like_2_inv h1
    obtain ⟨M, s4, dM, e4, h4⟩ := like_2_inv h2
    rw [like_nil h4, List.append_nil] at e4
    exact ⟨H, M, dH, dM, by rw [e1, e2, e4]; rfl⟩
theorem offP_val {sg : UInt8} {H M colon : List UInt8} (hc : colon = [58] ∨ colon = []) (hsg : sg = 43 ∨ sg = 45) (dH : Dg 2 H) (dM : Dg 2 M) : offP (sg :: (H ++ (colon ++ M))) colon = if valG H < 24 ∧ valG M < 60 then some (offV sg H M) else none := by
  by_cases h : valG H < 24 ∧ valG M < 60
  · rw [if_pos h, offP_iff _ _ hc]
    exact ⟨sg, H, M, hsg, dH, dM, rfl, by omega, by omega, rfl⟩
  · rw [if_neg h]
    cases ho : offP (sg :: (H ++ (colon ++ M))) colon with
    | none => rfl
    | some off =>
      obtain ⟨sg', H', M', _, dH', dM', e, b1, b2, _⟩ := (offP_iff _ _ hc off).1 ho
      have e1 := (List.cons.inj e).2
      have e2 := List.append_inj e1 (by rw [dH.1, dH'.1])
      have e3 := List.append_inj e2.2 rfl
      rw [← e2.1] at b1
      rw [← e3.2] at b2
      exact absurd ⟨by omega, by omega⟩ h
theorem offV_bd (sg : UInt8) {H M : List UInt8} (dH : Dg 2 H) (dM : Dg 2 M) : -1000000 ≤ offV sg H M ∧ offV sg H M ≤ 1000000 := by
  have a := dg2_bd dH
  have b := dg2_bd dM
  unfold offV
  split <;> omega
set_option maxRecDepth 100000 in
set_option maxHeartbeats 4000000 in
theorem roffset_any (l : List UInt8) (colon : List UInt8) (hc : colon = [58] ∨ colon = []) (w : World) (hs : l.length ≤ 300) : Calls Tryd.prog 29 #[.string ⟨l.toArray⟩, .string ⟨colon.toArray⟩] w (OffOut l colon w) := by
  have zc : colon.length ≤ 1 := by rcases hc with rfl | rfl <;> decide
  obtain ⟨p1, q1⟩ : ∃ p, [43, 57, 57] ++ colon = p := ⟨_, rfl⟩
  obtain ⟨p2, q2⟩ : ∃ p, p1 ++ [57, 57] = p := ⟨_, rfl⟩
  obtain ⟨m1, q3⟩ : ∃ p, [45, 57, 57] ++ colon = p := ⟨_, rfl⟩
  obtain ⟨m2, q4⟩ : ∃ p, m1 ++ [57, 57] = p := ⟨_, rfl⟩
  have zp1 : p1.length ≤ 4 := by rw [← q1, List.length_append]; simp; omega
  have zm1 : m1.length ≤ 4 := by rw [← q3, List.length_append]; simp; omega
  have zp2 : p2.length ≤ 6 := by rw [← q2, List.length_append]; simp; omega
  have zm2 : m2.length ≤ 6 := by rw [← q4, List.length_append]; simp; omega
  have a1 : ∀ W, (Op.stringOp .add ⟨#[43, 57, 57]⟩ ⟨colon.toArray⟩).run Tryd.prog W = .ok (.string ⟨p1.toArray⟩) W := fun W => add_text W [43, 57, 57] colon _ (by simp; omega) q1
  have a2 : ∀ W, (Op.stringOp .add ⟨p1.toArray⟩ ⟨#[57, 57]⟩).run Tryd.prog W = .ok (.string ⟨p2.toArray⟩) W := fun W => add_text W p1 [57, 57] _ (by simp; omega) q2
  have a3 : ∀ W, (Op.stringOp .add ⟨#[45, 57, 57]⟩ ⟨colon.toArray⟩).run Tryd.prog W = .ok (.string ⟨m1.toArray⟩) W := fun W => add_text W [45, 57, 57] colon _ (by simp; omega) q3
  have a4 : ∀ W, (Op.stringOp .add ⟨m1.toArray⟩ ⟨#[57, 57]⟩).run Tryd.prog W = .ok (.string ⟨m2.toArray⟩) W := fun W => add_text W m1 [57, 57] _ (by simp; omega) q4
  have k1 := fun W => rlikeB l p2 W (by omega) (by omega)
  have k2 := fun W => rlikeB l m2 W (by omega) (by omega)
  have P2 : p2 = ([43, 57, 57] ++ colon) ++ [57, 57] := by rw [q1, q2]
  have M2 : m2 = ([45, 57, 57] ++ colon) ++ [57, 57] := by rw [q3, q4]
  have A1 := Lib.hid a1
  have A2 := Lib.hid a2
  have A3 := Lib.hid a3
  have A4 := Lib.hid a4
  clear a1 a2 a3 a4 q1 q2 q3 q4 zp1 zm1 zp2 zm2
  unfold BoolB at k1 k2
  cases hl : likeP l p2 with
  | false =>
    cases hm : likeP l m2 with
    | false =>
      have HN := Lib.hid (show offP l colon = none by
        unfold offP
        rw [if_neg]
        rw [← P2, ← M2, hl, hm]; decide)
      rw [hl] at k1
      rw [hm] at k2
      clear hl hm P2 M2
      generalize (⟨l.toArray⟩ : ByteArray) = S at *
      generalize (⟨p1.toArray⟩ : ByteArray) = XP1 at *
      generalize (⟨p2.toArray⟩ : ByteArray) = XP2 at *
      generalize (⟨m1.toArray⟩ : ByteArray) = XM1 at *
      generalize (⟨m2.toArray⟩ : ByteArray) = XM2 at *
      generalize (⟨colon.toArray⟩ : ByteArray) = CO at *
      have a1 := A1.out
      have a2 := A2.out
      have a3 := A3.out
      have a4 := A4.out
      go_enter Tryd.func29, Tryd.ntmps29
      go_wp2_with fail
      refine (k1 _).mono ?_
      clear k1
      rintro e w1 ⟨rfl, b1⟩
      go_wp2_with fail
      refine (k2 _).mono ?_
      clear k2
      rintro e w2 ⟨rfl, b2⟩
      go_wp2
      go_ret2
      exact ⟨0, false, rfl, (fun h => by cases h), fun _ => HN.out, b1.trans (b2.mono b1.size), by omega, by omega⟩
    | true =>
      obtain ⟨H, M, dH, dM, hlx⟩ := off_form hc (show (45 : UInt8) ≠ 57 by decide) (by rw [← M2]; exact hm)
      have hoff := offP_val hc (show (45 : UInt8) = 43 ∨ (45 : UInt8) = 45 by decide) dH dM
      rw [← hlx] at hoff
      have hob := offV_bd 45 dH dM
      have hov : offV 45 H M = -(3600 * valG H + 60 * valG M) := by unfold offV; rw [if_pos rfl]
      rw [hov] at hoff hob
      have bH := dg2_bd dH
      have bM := dg2_bd dM
      have zl : l.length = 5 + colon.length := by rw [hlx, List.length_cons, List.length_append, List.length_append, dH.1, dM.1]; omega
      obtain ⟨o1, o2⟩ := off_pieces 45 H M colon dH dM
      rw [← hlx] at o1 o2
      have s1 : ∀ W, (Instr.slice 9 (.string ⟨l.toArray⟩) (some (.int .i64 1)) (some (.int .i64 3)) none).run Tryd.prog W = .ok (.string ⟨H.toArray⟩) W := fun W => slice_mid l H 1 3 (by omega) (by omega) o1 W
      have s2 : ∀ W, (Instr.slice 9 (.string ⟨l.toArray⟩) (some (.int .i64 ((l.length - 2 : Nat) : Int))) none none).run Tryd.prog W = .ok (.string ⟨M.toArray⟩) W := fun W => slice_from l M (l.length - 2) (by omega) o2 W
      have dH1 := fun W => rdigQ ⟨H.toArray⟩ W (by rw [size_list]; show H.length ≤ 9; rw [dH.1]; decide)
      have dM1 := fun W => rdigQ ⟨M.toArray⟩ W (by rw [size_list]; show M.length ≤ 9; rw [dM.1]; decide)
      rw [show digP (⟨H.toArray⟩ : ByteArray).data.toList = valG H from dH.digP] at dH1
      rw [show digP (⟨M.toArray⟩ : ByteArray).data.toList = valG M from dM.digP] at dM1
      have sz : (⟨l.toArray⟩ : ByteArray).size = l.length := by rw [size_list]
      have hw2 : IntKind.i64.wrap (((⟨l.toArray⟩ : ByteArray).size : Int) - 2) = ((l.length - 2 : Nat) : Int) := by rw [sz]; rw [show ((l.length : Nat) : Int) - 2 = ((l.length - 2 : Nat) : Int) by omega]; exact IntWalk.i64_in _ (by omega)
      have h00 : 0 < (⟨l.toArray⟩ : ByteArray).size := by rw [sz]; omega
      have c0 : ((⟨l.toArray⟩ : ByteArray)[0]'h00) = 45 := by
        subst hlx; rfl
      have c1 : ((((⟨l.toArray⟩ : ByteArray)[0]'h00).toNat : Int) == 45) = true := by rw [c0]; decide
      rw [hl] at k1
      rw [hm] at k2
      clear hl hm P2 M2 hlx o1 o2 hov zl sz c0 dH dM
      generalize (⟨H.toArray⟩ : ByteArray) = SH at *
      generalize (⟨M.toArray⟩ : ByteArray) = SM at *
      generalize l.length - 2 = L2 at *
      generalize (⟨l.toArray⟩ : ByteArray) = S at *
      generalize (⟨p1.toArray⟩ : ByteArray) = XP1 at *
      generalize (⟨p2.toArray⟩ : ByteArray) = XP2 at *
      generalize (⟨m1.toArray⟩ : ByteArray) = XM1 at *
      generalize (⟨m2.toArray⟩ : ByteArray) = XM2 at *
      generalize (⟨colon.toArray⟩ : ByteArray) = CO at *
      generalize valG H = vh at *
      generalize valG M = vm at *
      obtain ⟨bh0, bh1⟩ := bH
      obtain ⟨bm0, bm1⟩ := bM
      obtain ⟨ob0, ob1⟩ := hob
      have HO := Lib.hid hoff
      have OB0 := Lib.hid ob0
      have OB1 := Lib.hid ob1
      clear hoff ob0 ob1
      have a1 := A1.out
      have a2 := A2.out
      have a3 := A3.out
      have a4 := A4.out
      go_enter Tryd.func29, Tryd.ntmps29
      go_wp2_with fail
      refine (k1 _).mono ?_
      clear k1
      rintro e w1 ⟨rfl, b1⟩
      go_wp2_with fail
      refine (k2 _).mono ?_
      clear k2
      rintro e w2 ⟨rfl, b2⟩
      by_cases q1 : vh < 24
      · by_cases q2 : vm < 60
        · have r1 : decide (vh < 24) = true := by simpa using q1
          have r2 : decide (vm < 60) = true := by simpa using q2
          have HY := Lib.hid (HO.out.trans (if_pos ⟨q1, q2⟩))
          go_wp2
          go_quiet (first | (go_at_call 28; with_reducible exact Calls.quiet_of_same (dH1 _)) | (go_at_call 28; with_reducible exact Calls.quiet_of_same (dM1 _)))
          go_wp2
          go_ret2
          exact ⟨-(3600 * vh + 60 * vm), true, rfl, fun _ => HY.out, (fun h => by cases h), below_drewN (b1.trans (b2.mono b1.size)) _, OB0.out, OB1.out⟩
        · have r1 : decide (vh < 24) = true := by simpa using q1
          have r2 : decide (vm < 60) = false := by simpa using q2
          have HY := Lib.hid (HO.out.trans (if_neg (fun h => q2 h.2)))
          go_wp2
          go_quiet (first | (go_at_call 28; with_reducible exact Calls.quiet_of_same (dH1 _)) | (go_at_call 28; with_reducible exact Calls.quiet_of_same (dM1 _)))
          go_wp2
          go_ret2
          exact ⟨-(3600 * vh + 60 * vm), false, rfl, (fun h => by cases h), fun _ => HY.out, below_drewN (b1.trans (b2.mono b1.size)) _, OB0.out, OB1.out⟩
      · have r1 : decide (vh < 24) = false := by simpa using q1
        have HY := Lib.hid (HO.out.trans (if_neg (fun h => q1 h.1)))
        go_wp2
        go_quiet (first | (go_at_call 28; with_reducible exact Calls.quiet_of_same (dH1 _)) | (go_at_call 28; with_reducible exact Calls.quiet_of_same (dM1 _)))
        go_wp2
        go_ret2
        exact ⟨-(3600 * vh + 60 * vm), false, rfl, (fun h => by cases h), fun _ => HY.out, below_drewN (b1.trans (b2.mono b1.size)) _, OB0.out, OB1.out⟩
  | true =>
      obtain ⟨H, M, dH, dM, hlx⟩ := off_form hc (show (43 : UInt8) ≠ 57 by decide) (by rw [← P2]; exact hl)
      have hoff := offP_val hc (show (43 : UInt8) = 43 ∨ (43 : UInt8) = 45 by decide) dH dM
      rw [← hlx] at hoff
      have hob := offV_bd 43 dH dM
      have hov : offV 43 H M = 3600 * valG H + 60 * valG M := by unfold offV; rw [if_neg (by decide)]
      rw [hov] at hoff hob
      have bH := dg2_bd dH
      have bM := dg2_bd dM
      have zl : l.length = 5 + colon.length := by rw [hlx, List.length_cons, List.length_append, List.length_append, dH.1, dM.1]; omega
      obtain ⟨o1, o2⟩ := off_pieces 43 H M colon dH dM
      rw [← hlx] at o1 o2
      have s1 : ∀ W, (Instr.slice 9 (.string ⟨l.toArray⟩) (some (.int .i64 1)) (some (.int .i64 3)) none).run Tryd.prog W = .ok (.string ⟨H.toArray⟩) W := fun W => slice_mid l H 1 3 (by omega) (by omega) o1 W
      have s2 : ∀ W, (Instr.slice 9 (.string ⟨l.toArray⟩) (some (.int .i64 ((l.length - 2 : Nat) : Int))) none none).run Tryd.prog W = .ok (.string ⟨M.toArray⟩) W := fun W => slice_from l M (l.length - 2) (by omega) o2 W
      have dH1 := fun W => rdigQ ⟨H.toArray⟩ W (by rw [size_list]; show H.length ≤ 9; rw [dH.1]; decide)
      have dM1 := fun W => rdigQ ⟨M.toArray⟩ W (by rw [size_list]; show M.length ≤ 9; rw [dM.1]; decide)
      rw [show digP (⟨H.toArray⟩ : ByteArray).data.toList = valG H from dH.digP] at dH1
      rw [show digP (⟨M.toArray⟩ : ByteArray).data.toList = valG M from dM.digP] at dM1
      have sz : (⟨l.toArray⟩ : ByteArray).size = l.length := by rw [size_list]
      have hw2 : IntKind.i64.wrap (((⟨l.toArray⟩ : ByteArray).size : Int) - 2) = ((l.length - 2 : Nat) : Int) := by rw [sz]; rw [show ((l.length : Nat) : Int) - 2 = ((l.length - 2 : Nat) : Int) by omega]; exact IntWalk.i64_in _ (by omega)
      have h00 : 0 < (⟨l.toArray⟩ : ByteArray).size := by rw [sz]; omega
      have c0 : ((⟨l.toArray⟩ : ByteArray)[0]'h00) = 43 := by
        subst hlx; rfl
      have c1 : ((((⟨l.toArray⟩ : ByteArray)[0]'h00).toNat : Int) == 45) = false := by rw [c0]; decide
      rw [hl] at k1
      clear hl P2 M2 hlx o1 o2 hov zl sz c0 dH dM
      generalize (⟨H.toArray⟩ : ByteArray) = SH at *
      generalize (⟨M.toArray⟩ : ByteArray) = SM at *
      generalize l.length - 2 = L2 at *
      generalize (⟨l.toArray⟩ : ByteArray) = S at *
      generalize (⟨p1.toArray⟩ : ByteArray) = XP1 at *
      generalize (⟨p2.toArray⟩ : ByteArray) = XP2 at *
      generalize (⟨m1.toArray⟩ : ByteArray) = XM1 at *
      generalize (⟨m2.toArray⟩ : ByteArray) = XM2 at *
      generalize (⟨colon.toArray⟩ : ByteArray) = CO at *
      generalize valG H = vh at *
      generalize valG M = vm at *
      obtain ⟨bh0, bh1⟩ := bH
      obtain ⟨bm0, bm1⟩ := bM
      obtain ⟨ob0, ob1⟩ := hob
      have HO := Lib.hid hoff
      have OB0 := Lib.hid ob0
      have OB1 := Lib.hid ob1
      clear hoff ob0 ob1
      have a1 := A1.out
      have a2 := A2.out
      have a3 := A3.out
      have a4 := A4.out
      go_enter Tryd.func29, Tryd.ntmps29
      go_wp2_with fail
      refine (k1 _).mono ?_
      clear k1
      rintro e w1 ⟨rfl, b1⟩
      by_cases q1 : vh < 24
      · by_cases q2 : vm < 60
        · have r1 : decide (vh < 24) = true := by simpa using q1
          have r2 : decide (vm < 60) = true := by simpa using q2
          have HY := Lib.hid (HO.out.trans (if_pos ⟨q1, q2⟩))
          go_wp2
          go_quiet (first | (go_at_call 28; with_reducible exact Calls.quiet_of_same (dH1 _)) | (go_at_call 28; with_reducible exact Calls.quiet_of_same (dM1 _)))
          go_wp2
          go_ret2
          exact ⟨3600 * vh + 60 * vm, true, rfl, fun _ => HY.out, (fun h => by cases h), below_drewN b1 _, OB0.out, OB1.out⟩
        · have r1 : decide (vh < 24) = true := by simpa using q1
          have r2 : decide (vm < 60) = false := by simpa using q2
          have HY := Lib.hid (HO.out.trans (if_neg (fun h => q2 h.2)))
          go_wp2
          go_quiet (first | (go_at_call 28; with_reducible exact Calls.quiet_of_same (dH1 _)) | (go_at_call 28; with_reducible exact Calls.quiet_of_same (dM1 _)))
          go_wp2
          go_ret2
          exact ⟨3600 * vh + 60 * vm, false, rfl, (fun h => by cases h), fun _ => HY.out, below_drewN b1 _, OB0.out, OB1.out⟩
      · have r1 : decide (vh < 24) = false := by simpa using q1
        have HY := Lib.hid (HO.out.trans (if_neg (fun h => q1 h.1)))
        go_wp2
        go_quiet (first | (go_at_call 28; with_reducible exact Calls.quiet_of_same (dH1 _)) | (go_at_call 28; with_reducible exact Calls.quiet_of_same (dM1 _)))
        go_wp2
        go_ret2
        exact ⟨3600 * vh + 60 * vm, false, rfl, (fun h => by cases h), fun _ => HY.out, below_drewN b1 _, OB0.out, OB1.out⟩
def TimV (r : Option Int) : Value := match r with
  | some v => .tuple #[.int .i64 v, .bool true]
  | none => .tuple #[.int .i64 0, .bool false]
def TimOut (r : Option Int) (w : World) (e : Ending) (w' : World) : Prop := e = .returned (TimV r) ∧ Below w.heap.size w w'
theorem timeP_no {y mo d h mi s off : Int} (hx : ¬ (1 ≤ y ∧ y ≤ 9999 ∧ 1 ≤ mo ∧ mo ≤ 12 ∧ 1 ≤ d ∧ d ≤ lenM y mo ∧ h ≤ 23 ∧ mi ≤ 59 ∧ s ≤ 60)) : timeP y mo d h mi s off = none := by
  unfold timeP; rw [if_neg hx]
/-- Numbers that fit. -/
def Bds (y d h mi s off : Int) : Prop := -10 ≤ y ∧ y ≤ 20000 ∧ d ≤ 20000 ∧ -10 ≤ h ∧ h ≤ 20000 ∧ -10 ≤ mi ∧ mi ≤ 20000 ∧ -10 ≤ s ∧ s ≤ 20000 ∧ -1000000 ≤ off ∧ off ≤ 1000000
end Go.Proofs.YtocmppafmaehcaaDoor
