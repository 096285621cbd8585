/-
  The walk of the document's Atom of layer 3. Conditions: texts of at most 250 bytes.
-/
import Derived.Test.YtocmppafmaehcaaDoorRH
import Derived.Test.YtocmppafmaehcaaDoorDN
import Derived.Deep.RegionHeld3
import Derived.Deep.DeepCutAuto
import Derived.Deep.CutBlock
namespace Go.Proofs.YtocmppafmaehcaaDoor
open Go.RowKit
open Go.Lib

theorem Kept.alloc {w0 w : World} (h : Kept w0 w) (o : Obj) : Kept w0 (w.alloc o) := Below.alloc h (Below.size h) o
theorem frac_more (z : List UInt8) (k : Nat) (hk : 1 ≤ k) (hl : k < z.length) (ha : ((z.drop 1).take (k - 1)).all isDg = true) (hd : isDg z[k] = true) : ((z.drop 1).take k).all isDg = true := by
  cases z with
  | nil => simp at hl
  | cons a r =>
    obtain ⟨j, rfl⟩ : ∃ j, k = j + 1 := ⟨k - 1, by omega⟩
    have hj : j < r.length := by simpa using hl
    show (r.take (j + 1)).all isDg = true
    change (r.take j).all isDg = true at ha
    change isDg (r[j]'hj) = true at hd
    rw [List.take_succ_eq_append_getElem hj, List.all_append, ha]
    simpa using hd
theorem frac_stop (z : List UInt8) (k : Nat) (hk : 1 ≤ k) (hl : k ≤ z.length) (h46 : z.head? = some 46) (ha : ((z.drop 1).take (k - 1)).all isDg = true) (hs : k = z.length ∨ ∃ h : k < z.length, isDg z[k] = false) : fracP z = if k = 1 then none else some (z.drop k) := by
  cases z with
  | nil => simp at h46
  | cons a r =>
    obtain ⟨j, rfl⟩ : ∃ j, k = j + 1 := ⟨k - 1, by omega⟩
    change (r.take j).all isDg = true at ha
    have hjl : j ≤ r.length := by simpa using hl
    have htw : r.takeWhile isDg = r.take j ∧ r.dropWhile isDg = r.drop j := by
      have e := takeWhile_all (r.take j) (r.drop j) ha
      rw [List.take_append_drop] at e
      have hd : (r.drop j).takeWhile isDg = [] := by
        rcases hs with h | ⟨h, hn⟩
        · rw [List.drop_eq_nil_of_le (by simp at h; omega)]; rfl
        · have hj : j < r.length := by simpa using h
          rw [List.drop_eq_getElem_cons hj, List.takeWhile_cons]
          change isDg (r[j]'hj) = false at hn
          rw [hn]; rfl
      rw [hd, List.append_nil] at e
      refine ⟨e, ?_⟩
      have e2 := List.takeWhile_append_dropWhile (p := isDg) (l := r)
      rw [e] at e2
      exact List.append_cancel_left (e2.trans (List.take_append_drop j r).symm)
    unfold fracP
    rw [if_pos h46]
    show (if r.takeWhile isDg = [] then none else some (r.dropWhile isDg)) = _
    rw [htw.1, htw.2]
    by_cases h0 : j = 0
    · subst h0; simp
    · rw [if_neg, if_neg (by omega)]
      · rfl
      · intro e
        have hlen := congrArg List.length e
        rw [List.length_take, List.length_nil, Nat.min_eq_left hjl] at hlen
        exact h0 hlen
theorem patA_len (c : UInt8) : (patA c).length = 19 := rfl
theorem rlikeA (l : List UInt8) (c : UInt8) (v : Bool) (hv : likeP l (patA c) = v) (hl : l.length ≤ 1000) (w : World) : Calls Tryd.prog 27 #[.string ⟨l.toArray⟩, .string ⟨(patA c).toArray⟩] w (BoolB v w) := by
  subst hv; exact rlikeB l (patA c) w hl (by rw [patA_len]; decide)
set_option maxRecDepth 100000 in
set_option maxHeartbeats 1000000 in
theorem ratom_short (l : List UInt8) (w : World) (hl : l.length < 20) : Calls Tryd.prog 12 #[.string ⟨l.toArray⟩] w (TimOut none w) := by
  have sz : (⟨l.toArray⟩ : ByteArray).size < 20 := by rw [size_list]; exact hl
  generalize (⟨l.toArray⟩ : ByteArray) = S at *
  go_enter Tryd.func12, Tryd.ntmps12
  go_wp2
  go_ret2
  exact ⟨rfl, Below.refl _ _⟩
set_option maxRecDepth 100000 in
set_option maxHeartbeats 1000000 in
theorem ratom_none (l : List UInt8) (w : World) (hl : 20 ≤ l.length) (hl2 : l.length ≤ 250) (k1 : likeP (l.take 19) (patA 84) = false) (k2 : likeP (l.take 19) (patA 116) = false) (k3 : likeP (l.take 19) (patA 32) = false) : Calls Tryd.prog 12 #[.string ⟨l.toArray⟩] w (TimOut none w) := by
  have za : (l.take 19).length ≤ 1000 := by rw [List.length_take]; omega
  have c1 := fun W => rlikeA (l.take 19) 84 false k1 za W
  have c2 := fun W => rlikeA (l.take 19) 116 false k2 za W
  have c3 := fun W => rlikeA (l.take 19) 32 false k3 za W
  have sA : ∀ W, (Instr.slice 9 (.string ⟨l.toArray⟩) none (some (.int .i64 19)) none).run Tryd.prog W = .ok (.string ⟨(l.take 19).toArray⟩) W := fun W => slice_upto l _ 19 (by omega) rfl W
  have sz : ¬ (⟨l.toArray⟩ : ByteArray).size < 20 := by rw [size_list]; show ¬ l.length < 20; omega
  unfold BoolB at c1 c2 c3
  generalize (⟨(l.take 19).toArray⟩ : ByteArray) = A at *
  generalize (⟨l.toArray⟩ : ByteArray) = S at *
  clear k1 k2 k3
  go_enter Tryd.func12, Tryd.ntmps12
  go_wp2_with fail
  refine (c1 _).mono ?_
  clear c1
  rintro e w1 ⟨rfl, b1⟩
  go_wp2_with fail
  refine (c2 _).mono ?_
  clear c2
  rintro e w2 ⟨rfl, b2⟩
  go_wp2_with fail
  refine (c3 _).mono ?_
  clear c3
  rintro e w3 ⟨rfl, b3⟩
  go_wp2
  go_ret2
  have B2 := b1.trans (b2.mono b1.size)
  exact ⟨rfl, B2.trans (b3.mono B2.size)⟩
set_option maxRecDepth 100000 in
set_option maxHeartbeats 8000000 in
theorem ratom_yes (Y MO D H MI S z : List UInt8) (c : UInt8) (hd : Dg 4 Y ∧ Dg 2 MO ∧ Dg 2 D ∧ Dg 2 H ∧ Dg 2 MI ∧ Dg 2 S) (w : World) (hz0 : 1 ≤ z.length) (hz1 : z.length ≤ 231) (hk : likeP (textA Y MO D H MI S c []) (patA 84) = true ∨ likeP (textA Y MO D H MI S c []) (patA 116) = true ∨ likeP (textA Y MO D H MI S c []) (patA 32) = true) :
    Calls Tryd.prog 12 #[.string ⟨(textA Y MO D H MI S c z).toArray⟩] w (TimOut ((fracP z).bind fun z => (zoneA z).bind fun off => timeP (valG Y) (valG MO) (valG D) (valG H) (valG MI) (valG S) off) w) := by
  obtain ⟨p1, p2, p3, p4, p5, p6, p7, p8, p9⟩ := atom_pieces hd c z
  obtain ⟨q1, q2, q3, q4, q5, q6, _, _, q9⟩ := atom_pieces hd c []
  obtain ⟨dY, dMO, dD, dH, dMI, dS⟩ := hd
  rw [List.length_nil] at q9
  have c1 := fun v hv W => rlikeA (textA Y MO D H MI S c []) 84 v hv (by rw [q9]; decide) W
  have c2 := fun v hv W => rlikeA (textA Y MO D H MI S c []) 116 v hv (by rw [q9]; decide) W
  have c3 := fun v hv W => rlikeA (textA Y MO D H MI S c []) 32 v hv (by rw [q9]; decide) W
  have sA : ∀ W, (Instr.slice 9 (.string ⟨(textA Y MO D H MI S c z).toArray⟩) none (some (.int .i64 19)) none).run Tryd.prog W = .ok (.string ⟨(textA Y MO D H MI S c []).toArray⟩) W := fun W => slice_upto _ _ 19 (by omega) p7 W
  have sZ : ∀ W, (Instr.slice 9 (.string ⟨(textA Y MO D H MI S c z).toArray⟩) (some (.int .i64 19)) none none).run Tryd.prog W = .ok (.string ⟨z.toArray⟩) W := fun W => slice_from _ _ 19 (by omega) p8 W
  have s1 : ∀ W, (Instr.slice 9 (.string ⟨(textA Y MO D H MI S c []).toArray⟩) none (some (.int .i64 4)) none).run Tryd.prog W = .ok (.string ⟨Y.toArray⟩) W := fun W => slice_upto _ _ 4 (by omega) q1 W
  have s2 : ∀ W, (Instr.slice 9 (.string ⟨(textA Y MO D H MI S c []).toArray⟩) (some (.int .i64 5)) (some (.int .i64 7)) none).run Tryd.prog W = .ok (.string ⟨MO.toArray⟩) W := fun W => slice_mid _ _ 5 7 (by omega) (by omega) q2 W
  have s3 : ∀ W, (Instr.slice 9 (.string ⟨(textA Y MO D H MI S c []).toArray⟩) (some (.int .i64 8)) (some (.int .i64 10)) none).run Tryd.prog W = .ok (.string ⟨D.toArray⟩) W := fun W => slice_mid _ _ 8 10 (by omega) (by omega) q3 W
  have s4 : ∀ W, (Instr.slice 9 (.string ⟨(textA Y MO D H MI S c []).toArray⟩) (some (.int .i64 11)) (some (.int .i64 13)) none).run Tryd.prog W = .ok (.string ⟨H.toArray⟩) W := fun W => slice_mid _ _ 11 13 (by omega) (by omega) q4 W
  have s5 : ∀ W, (Instr.slice 9 (.string ⟨(textA Y MO D H MI S c []).toArray⟩) (some (.int .i64 14)) (some (.int .i64 16)) none).run Tryd.prog W = .ok (.string ⟨MI.toArray⟩) W := fun W => slice_mid _ _ 14 16 (by omega) (by omega) q5 W
  have q6' : (textA Y MO D H MI S c []).drop 17 = S := by
    rw [List.take_of_length_le (by rw [List.length_drop, q9]; decide)] at q6
    exact q6
  have s6 : ∀ W, (Instr.slice 9 (.string ⟨(textA Y MO D H MI S c []).toArray⟩) (some (.int .i64 17)) none none).run Tryd.prog W = .ok (.string ⟨S.toArray⟩) W := fun W => slice_from _ _ 17 (by omega) q6' W
  have gY := fun W => rdigits_any ⟨Y.toArray⟩ W (by rw [size_list]; show Y.length ≤ 9; rw [dY.1]; decide)
  rw [show digP (⟨Y.toArray⟩ : ByteArray).data.toList = valG Y from dY.digP] at gY
  have bY := dg4_bd dY
  have gMO := fun W => rdigits_any ⟨MO.toArray⟩ W (by rw [size_list]; show MO.length ≤ 9; rw [dMO.1]; decide)
  rw [show digP (⟨MO.toArray⟩ : ByteArray).data.toList = valG MO from dMO.digP] at gMO
  have bMO := dg2_bd dMO
  have gD := fun W => rdigits_any ⟨D.toArray⟩ W (by rw [size_list]; show D.length ≤ 9; rw [dD.1]; decide)
  rw [show digP (⟨D.toArray⟩ : ByteArray).data.toList = valG D from dD.digP] at gD
  have bD := dg2_bd dD
  have gH := fun W => rdigits_any ⟨H.toArray⟩ W (by rw [size_list]; show H.length ≤ 9; rw [dH.1]; decide)
  rw [show digP (⟨H.toArray⟩ : ByteArray).data.toList = valG H from dH.digP] at gH
  have bH := dg2_bd dH
  have gMI := fun W => rdigits_any ⟨MI.toArray⟩ W (by rw [size_list]; show MI.length ≤ 9; rw [dMI.1]; decide)
  rw [show digP (⟨MI.toArray⟩ : ByteArray).data.toList = valG MI from dMI.digP] at gMI
  have bMI := dg2_bd dMI
  have gS := fun W => rdigits_any ⟨S.toArray⟩ W (by rw [size_list]; show S.length ≤ 9; rw [dS.1]; decide)
  rw [show digP (⟨S.toArray⟩ : ByteArray).data.toList = valG S from dS.digP] at gS
  have bS := dg2_bd dS
  have sz : ¬ (⟨(textA Y MO D H MI S c z).toArray⟩ : ByteArray).size < 20 := by rw [size_list]; show ¬ (textA Y MO D H MI S c z).length < 20; omega
  unfold BoolB at c1 c2 c3
  generalize (⟨Y.toArray⟩ : ByteArray) = XY at *
  generalize (⟨MO.toArray⟩ : ByteArray) = XMO at *
  generalize (⟨D.toArray⟩ : ByteArray) = XD at *
  generalize (⟨H.toArray⟩ : ByteArray) = XH at *
  generalize (⟨MI.toArray⟩ : ByteArray) = XMI at *
  generalize (⟨S.toArray⟩ : ByteArray) = XS at *
  generalize (⟨(textA Y MO D H MI S c []).toArray⟩ : ByteArray) = A at *
  generalize (⟨(textA Y MO D H MI S c z).toArray⟩ : ByteArray) = SS at *
  clear p1 p2 p3 p4 p5 p6 p7 p8 p9 q1 q2 q3 q4 q5 q6 q6' q9 dY dMO dD dH dMI dS
  generalize textA Y MO D H MI S c [] = tl at *
  generalize valG Y = vy at *
  obtain ⟨lvy, uvy⟩ := bY
  generalize valG MO = vmo at *
  obtain ⟨lvmo, uvmo⟩ := bMO
  generalize valG D = vd at *
  obtain ⟨lvd, uvd⟩ := bD
  generalize valG H = vh at *
  obtain ⟨lvh, uvh⟩ := bH
  generalize valG MI = vmi at *
  obtain ⟨lvmi, uvmi⟩ := bMI
  generalize valG S = vs at *
  obtain ⟨lvs, uvs⟩ := bS
  have hTim := fun (off : Int) W (o0 : -1000000 ≤ off) (o1 : off ≤ 1000000) => rTime_any vy vmo vd vh vmi vs off W (by unfold Bds; omega)
  unfold partsV TimOut at hTim
  obtain ⟨res, hres⟩ : ∃ r, ((fracP z).bind fun z => (zoneA z).bind fun off => timeP vy vmo vd vh vmi vs off) = r := ⟨_, rfl⟩
  rw [hres]
  have HRES := Lib.hid hres
  clear hres
  have QhTim := Lib.hid hTim
  clear hTim
  have Qs1 := Lib.hid s1
  clear s1
  have Qs2 := Lib.hid s2
  clear s2
  have Qs3 := Lib.hid s3
  clear s3
  have Qs4 := Lib.hid s4
  clear s4
  have Qs5 := Lib.hid s5
  clear s5
  have Qs6 := Lib.hid s6
  clear s6
  have QsZ := Lib.hid sZ
  clear sZ
  have Qc1 := Lib.hid c1
  clear c1
  have Qc2 := Lib.hid c2
  clear c2
  have Qc3 := Lib.hid c3
  clear c3
  have Qhk := Lib.hid hk
  clear hk
  have QgY := Lib.hid gY
  clear gY
  have QgMO := Lib.hid gMO
  clear gMO
  have QgD := Lib.hid gD
  clear gD
  have QgH := Lib.hid gH
  clear gH
  have QgMI := Lib.hid gMI
  clear gMI
  have QgS := Lib.hid gS
  clear gS
  unfold TimOut
  go_enter Tryd.func12, Tryd.ntmps12
  go_upto_region 4 with fail
  go_cut [27] (fun s27 wx => s27 = .bool false ∧ Below w.heap.size w wx)
  case first =>
    clear sA
    cases k1 : likeP tl (patA 84) with
    | true =>
      go_wp2_with fail
      refine (Qc1.out true k1 _).mono ?_
      clear k1
      rintro e w1 ⟨rfl, b1⟩
      go_wp2_with fail
      go_meet
      exact ⟨rfl, b1⟩
    | false =>
      cases k2 : likeP tl (patA 116) with
      | true =>
        have K2 := Lib.hid k2
        clear k2
        go_wp2_with fail
        refine (Qc1.out false k1 _).mono ?_
        clear k1
        rintro e w1 ⟨rfl, b1⟩
        go_wp2_with fail
        refine (Qc2.out true K2.out _).mono ?_
        rintro e w2 ⟨rfl, b2⟩
        go_wp2_with fail
        go_meet
        exact ⟨rfl, b1.trans (b2.mono b1.size)⟩
      | false =>
        have k3 : likeP tl (patA 32) = true := by
          have := Qhk.out
          rw [k1, k2] at this
          simpa using this
        have K1 := Lib.hid k1
        have K2 := Lib.hid k2
        have K3 := Lib.hid k3
        clear k1 k2 k3
        go_wp2_with fail
        refine (Qc1.out false K1.out _).mono ?_
        rintro e w1 ⟨rfl, b1⟩
        go_wp2_with fail
        refine (Qc2.out false K2.out _).mono ?_
        rintro e w2 ⟨rfl, b2⟩
        have B2 := b1.trans (b2.mono b1.size)
        go_wp2_with fail
        refine (Qc3.out true K3.out _).mono ?_
        rintro e w3 ⟨rfl, b3⟩
        go_wp2_with fail
        go_meet
        exact ⟨rfl, B2.trans (b3.mono B2.size)⟩
  case rest =>
    obtain ⟨rfl, B1⟩ := hcut
    obtain ⟨w1, hw1⟩ : ∃ W, W = wc := ⟨_, rfl⟩
    subst hw1
    clear sA
    go_upto_region 6 with fail
    go_cut [5] (fun s5 wx => ∃ g : Nat, s5 = .pointer (some ⟨g, 0, none⟩) ∧ w.heap.size ≤ g ∧ Blk g (.cells #[.int .i64 vy, .int .i64 vmo, .int .i64 vd, .int .i64 vh, .int .i64 vmi, .int .i64 vs, .int .i64 0] 31 (0, 0)) wx ∧ Below w.heap.size w wx)
    case first =>
      have s1 := Qs1.out
      have s2 := Qs2.out
      have s3 := Qs3.out
      have s4 := Qs4.out
      have s5 := Qs5.out
      have s6 := Qs6.out
      have hkk : Kept w1 w1 := Below.refl _ _
      go_region_held3 (fun w' => Kept w1 w') (first | assumption | exact Kept.drew (by assumption) | exact Kept.alloc (by assumption) _ | exact Kept.drew (Kept.alloc (by assumption) _))
        (first
          | (go_at_call 28; (with_reducible refine (QgY.out _).mono ?_); rintro e w' ⟨rfl, rfl⟩)
          | (go_at_call 28; (with_reducible refine (QgMO.out _).mono ?_); rintro e w' ⟨rfl, rfl⟩)
          | (go_at_call 28; (with_reducible refine (QgD.out _).mono ?_); rintro e w' ⟨rfl, rfl⟩)
          | (go_at_call 28; (with_reducible refine (QgH.out _).mono ?_); rintro e w' ⟨rfl, rfl⟩)
          | (go_at_call 28; (with_reducible refine (QgMI.out _).mono ?_); rintro e w' ⟨rfl, rfl⟩)
          | (go_at_call 28; (with_reducible refine (QgS.out _).mono ?_); rintro e w' ⟨rfl, rfl⟩))
      all_goals
        go_wp2_with fail
        go_meet
        exact ⟨w1.heap.size, rfl, B1.size, Blk.new _ w1, below_drewN (B1.alloc B1.size _) 1⟩
    case rest =>
      obtain ⟨g, rfl, hg, PB, B2⟩ := hcut
      obtain ⟨w2, hw2⟩ : ∃ W, W = wc := ⟨_, rfl⟩
      subst hw2
      have sZ := QsZ.out
      have hsz : (⟨z.toArray⟩ : ByteArray).size = z.length := by rw [size_list]
      have hz0' : 0 < (⟨z.toArray⟩ : ByteArray).size := by omega
      have hzc : z.head? = some ((⟨z.toArray⟩ : ByteArray)[0]'hz0') := by
        cases z with
        | nil => exact absurd hz0 (by decide)
        | cons a r => rfl
      have hslk : ∀ (k : Nat) (hk : k ≤ z.length) W, (Instr.slice 9 (.string ⟨z.toArray⟩) (some (.int .i64 (k : Int))) none none).run Tryd.prog W = .ok (.string ⟨(z.drop k).toArray⟩) W := fun k hk W => slice_from z _ k hk rfl W
      have hszl : (⟨z.toArray⟩ : ByteArray).size ≤ 231 := by omega
      have hby : ∀ k (h : k < (⟨z.toArray⟩ : ByteArray).size) (h2 : k < z.length), z[k] = (⟨z.toArray⟩ : ByteArray)[k]'h := fun k h h2 => rfl
      have HSZ := Lib.hid hsz
      have HZC := Lib.hid hzc
      have HSLK := Lib.hid hslk
      have HBY := Lib.hid hby
      clear hsz hzc hslk hby
      generalize hZZ : (⟨z.toArray⟩ : ByteArray) = ZZ at *
      have HZZ := Lib.hid hZZ
      clear hZZ
      go_upto_if 52 with (fail)
      clear sZ
      go_cut [6] (fun s6 wx => ∃ z2 : List UInt8, s6 = .string ⟨z2.toArray⟩ ∧ Hid (fracP z = some z2) ∧ z2.length ≤ 231 ∧ wx = w2)
      case first =>
        by_cases hdot : ZZ[0] = 46
        · have b46 : ((ZZ[0].toNat : Int) == 46) = true := by rw [hdot]; decide
          have HZ46 := Lib.hid (show z.head? = some 46 by rw [HZC.out, hdot])
          clear hdot
          go_wp2_with fail
          go_loop [7] (fun i => ∃ k : Nat, 1 ≤ k ∧ k ≤ ZZ.size ∧ i = .int .i64 k ∧ Hid (((z.drop 1).take (k - 1)).all isDg = true)) (fun i => ZZ.size - (RowKit.intOf i).toNat)
          case atStart => exact ⟨1, by omega, by omega, rfl, by show _ = _; rfl⟩
          case round =>
            obtain ⟨k, hk1, hk2, rfl, ha⟩ := hrel
            by_cases hgo : ∃ h : k < ZZ.size, isDg ZZ[k] = true
            · obtain ⟨g2, g3⟩ := hgo
              have hy := isDg_yes g3
              have HA := Lib.hid (frac_more z k hk1 (by rw [← HSZ.out]; exact g2) ha.out (by rw [HBY.out k g2 (by rw [← HSZ.out]; exact g2)]; exact g3))
              have t1 : decide (48 ≤ (ZZ[k].toNat : Int)) = true := by simp; omega
              have t2 : decide ((ZZ[k].toNat : Int) ≤ 57) = true := by simp; omega
              clear g3
              go_wp2
              go_round
              case rel => exact ⟨k + 1, by omega, by omega, by go_num, by rw [Nat.add_sub_cancel]; exact HA.out⟩
              case measure => simp [RowKit.intOf]; omega
            · have hst : k = ZZ.size ∨ ∃ h : k < ZZ.size, isDg ZZ[k] = false := by
                by_cases e : k = ZZ.size
                · exact .inl e
                · refine .inr ⟨by omega, ?_⟩
                  cases hc : isDg (ZZ[k]'(by omega)) with
                  | false => rfl
                  | true => exact absurd ⟨by omega, hc⟩ hgo
              clear hgo
              have HFR := Lib.hid (frac_stop z k hk1 (by rw [← HSZ.out]; exact hk2) HZ46.out ha.out (by
                rcases hst with e | ⟨h, hn⟩
                · exact .inl (by rw [← HSZ.out]; exact e)
                · exact .inr ⟨by rw [← HSZ.out]; exact h, by rw [HBY.out k h (by rw [← HSZ.out]; exact h)]; exact hn⟩))
              have slk := HSLK.out k (by rw [← HSZ.out]; exact hk2)
              have hzk : (z.drop k).length ≤ 231 := by rw [List.length_drop]; omega
              have SLK := Lib.hid slk
              clear slk
              by_cases e1 : k = 1
              · have HN := Lib.hid (show fracP z = none by rw [HFR.out, if_pos e1])
                subst e1
                have HRN := Lib.hid (show none = res by rw [← HRES.out, HN.out]; rfl)
                rcases hst with e | ⟨h, hn⟩
                · have hle : ZZ.size ≤ 1 := by omega
                  have d2 : decide ((1 : Int) < (ZZ.size : Int)) = false := by simp; omega
                  have d1 : decide (1 < ZZ.size) = false := by simp; omega
                  clear e
                  go_wp2
                  go_ret2
                  exact ⟨by rw [← HRN.out]; rfl, B2⟩
                · have hnn := isDg_no hn
                  have hbb := UInt8.toNat_lt ZZ[1]
                  clear hn
                  by_cases c48 : 48 ≤ (ZZ[1].toNat : Int)
                  · have t1 : decide (48 ≤ (ZZ[1].toNat : Int)) = true := by simpa using c48
                    have t2 : decide ((ZZ[1].toNat : Int) ≤ 57) = false := by simp; omega
                    go_wp2
                    go_ret2
                    exact ⟨by rw [← HRN.out]; rfl, B2⟩
                  · have t1 : decide (48 ≤ (ZZ[1].toNat : Int)) = false := by simpa using c48
                    go_wp2
                    go_ret2
                    exact ⟨by rw [← HRN.out]; rfl, B2⟩
              · have HN := Lib.hid (show fracP z = some (z.drop k) by rw [HFR.out, if_neg e1])
                have te : ((k : Int) == 1) = false := by simp; omega
                have slk := SLK.out
                rcases hst with e | ⟨h, hn⟩
                · have d1 : decide (k < ZZ.size) = false := by simp; omega
                  clear e e1
                  go_wp2_with fail
                  go_meet
                  exact ⟨z.drop k, rfl, HN.out, hzk, rfl⟩
                · have hnn := isDg_no hn
                  have hbb := UInt8.toNat_lt ZZ[k]
                  clear hn e1
                  by_cases c48 : 48 ≤ (ZZ[k].toNat : Int)
                  · have t1 : decide (48 ≤ (ZZ[k].toNat : Int)) = true := by simpa using c48
                    have t2 : decide ((ZZ[k].toNat : Int) ≤ 57) = false := by simp; omega
                    go_wp2_with fail
                    go_meet
                    exact ⟨z.drop k, rfl, HN.out, hzk, rfl⟩
                  · have t1 : decide (48 ≤ (ZZ[k].toNat : Int)) = false := by simpa using c48
                    go_wp2_with fail
                    go_meet
                    exact ⟨z.drop k, rfl, HN.out, hzk, rfl⟩
        · have hn46 : ZZ[0].toNat ≠ 46 := fun e => hdot (UInt8.toNat_inj.1 e)
          have b46 : ((ZZ[0].toNat : Int) == 46) = false := by simp; omega
          have HN := Lib.hid (show fracP z = some z by
            unfold fracP
            rw [if_neg]
            rw [HZC.out]
            intro e
            exact hdot (Option.some.inj e))
          clear hdot
          go_wp2_with fail
          go_meet
          exact ⟨z, by rw [HZZ.out], HN.out, hz1, rfl⟩
      case rest =>
        obtain ⟨z2, rfl, HF, hz2, rfl⟩ := hcut
        obtain ⟨w3, hw3⟩ : ∃ W, W = wc := ⟨_, rfl⟩
        subst hw3
        have e90 := eql_fact z2 [90]
        have e122 := eql_fact z2 [122]
        have hoff := fun W => roffset_any z2 [58] (.inl rfl) W (by omega)
        have QOFF := Lib.hid hoff
        clear hoff
        change ((⟨z2.toArray⟩ : ByteArray).toList == (⟨#[90]⟩ : ByteArray).toList) = _ at e90
        change ((⟨z2.toArray⟩ : ByteArray).toList == (⟨#[122]⟩ : ByteArray).toList) = _ at e122
        rw [show (⟨#[90]⟩ : ByteArray).toList = [90] by rw [Lib.toList_data]] at e90
        rw [show (⟨#[122]⟩ : ByteArray).toList = [122] by rw [Lib.toList_data]] at e122
        obtain ⟨Z2, hZ2⟩ : ∃ Q : ByteArray, ⟨z2.toArray⟩ = Q := ⟨_, rfl⟩
        rw [hZ2] at e90 e122
        simp only [hZ2] at QOFF
        rw [hZ2]
        clear hZ2
        by_cases c1 : z2 = [90]
        · have HR := Lib.hid (show timeP vy vmo vd vh vmi vs 0 = res by rw [← HRES.out, HF.out, c1]; rfl)
          rw [show decide (z2 = [90]) = true by simpa using c1] at e90
          have n90 : (Z2.toList != ([90] : List UInt8)) = false := by simp only [bne, e90]; rfl
          clear c1 e122
          have q0 := Blk.cell PB 0
          have q1 := Blk.cell PB 1
          have q2 := Blk.cell PB 2
          have q3 := Blk.cell PB 3
          have q4 := Blk.cell PB 4
          have q5 := Blk.cell PB 5
          have q6 := Blk.cell PB 6
          simp at q0 q1 q2 q3 q4 q5 q6
          have ht := QhTim.out (0) w3 (by omega) (by omega)
          rw [HR.out] at ht
          go_wp2_with fail
          refine ht.mono ?_
          clear ht
          rintro e w9 ⟨rfl, b9⟩
          have B9 := B2.trans (b9.mono B2.size)
          cases res with
          | none =>
            unfold TimV
            go_wp2
            go_ret2
            exact ⟨rfl, B9⟩
          | some v =>
            unfold TimV
            go_wp2
            go_ret2
            exact ⟨rfl, B9⟩
        rw [show decide (z2 = [90]) = false by simpa using c1] at e90
        have n90 : (Z2.toList != ([90] : List UInt8)) = true := by simp only [bne, e90]; rfl
        by_cases c2 : z2 = [122]
        · have HR := Lib.hid (show timeP vy vmo vd vh vmi vs 0 = res by rw [← HRES.out, HF.out, c2]; rfl)
          rw [show decide (z2 = [122]) = true by simpa using c2] at e122
          have n122 : (Z2.toList != ([122] : List UInt8)) = false := by simp only [bne, e122]; rfl
          clear c1 c2
          have q0 := Blk.cell PB 0
          have q1 := Blk.cell PB 1
          have q2 := Blk.cell PB 2
          have q3 := Blk.cell PB 3
          have q4 := Blk.cell PB 4
          have q5 := Blk.cell PB 5
          have q6 := Blk.cell PB 6
          simp at q0 q1 q2 q3 q4 q5 q6
          have ht := QhTim.out (0) w3 (by omega) (by omega)
          rw [HR.out] at ht
          go_wp2_with fail
          refine ht.mono ?_
          clear ht
          rintro e w9 ⟨rfl, b9⟩
          have B9 := B2.trans (b9.mono B2.size)
          cases res with
          | none =>
            unfold TimV
            go_wp2
            go_ret2
            exact ⟨rfl, B9⟩
          | some v =>
            unfold TimV
            go_wp2
            go_ret2
            exact ⟨rfl, B9⟩
        rw [show decide (z2 = [122]) = false by simpa using c2] at e122
        have n122 : (Z2.toList != ([122] : List UInt8)) = true := by simp only [bne, e122]; rfl
        have HZA := Lib.hid (show zoneA z2 = offP z2 [58] by unfold zoneA; rw [if_neg (fun h => h.elim c1 c2)])
        clear c1 c2
        go_wp2_with fail
        refine (QOFF.out _).mono ?_
        rintro e w4 ⟨off, ok, rfl, ho1, ho2, b4, o0, o1⟩
        have B4 := B2.trans (b4.mono B2.size)
        have PB4 := Blk.grown PB (grown_below b4 none) (by simp)
        clear b4
        cases ok with
        | false =>
          have HRN := Lib.hid (show none = res by rw [← HRES.out, HF.out, Option.bind_some, HZA.out, ho2 rfl]; rfl)
          clear ho1 ho2
          go_wp2
          go_ret2
          exact ⟨by rw [← HRN.out]; rfl, B4⟩
        | true =>
          have HR := Lib.hid (show timeP vy vmo vd vh vmi vs off = res by rw [← HRES.out, HF.out, Option.bind_some, HZA.out, ho1 rfl]; rfl)
          clear ho1 ho2
          have m6 := Blk.cell PB4 6
          simp at m6
          have f6 := Blk.free PB4 6
          have PB5 := Blk.set PB4 6 (.int .i64 off)
          have B5 := below_set B4 hg 6 (.int .i64 off)
          have q0 := Blk.cell PB5 0
          have q1 := Blk.cell PB5 1
          have q2 := Blk.cell PB5 2
          have q3 := Blk.cell PB5 3
          have q4 := Blk.cell PB5 4
          have q5 := Blk.cell PB5 5
          have q6 := Blk.cell PB5 6
          simp at q0 q1 q2 q3 q4 q5 q6
          have QQ6 := Lib.hid m6
          have ht := QhTim.out (off) (w4.setCell ⟨g, 6, none⟩ (.int .i64 off)) o0 o1
          rw [HR.out] at ht
          go_wp2_with fail
          refine ht.mono ?_
          clear ht
          rintro e w9 ⟨rfl, b9⟩
          have B9 := B5.trans (b9.mono B5.size)
          cases res with
          | none =>
            unfold TimV
            go_wp2
            go_ret2
            exact ⟨rfl, B9⟩
          | some v =>
            unfold TimV
            go_wp2
            go_ret2
            exact ⟨rfl, B9⟩
theorem ratom_any (l : List UInt8) (w : World) (hl : l.length ≤ 250) : Calls Tryd.prog 12 #[.string ⟨l.toArray⟩] w (TimOut (atomP l) w) := by
  by_cases h20 : l.length < 20
  · rw [show atomP l = none by unfold atomP; rw [if_pos h20]]
    exact ratom_short l w h20
  · by_cases hk : likeP (l.take 19) (patA 84) = true ∨ likeP (l.take 19) (patA 116) = true ∨ likeP (l.take 19) (patA 32) = true
    · have hx : ∃ Y MO D H MI S c, (Dg 4 Y ∧ Dg 2 MO ∧ Dg 2 D ∧ Dg 2 H ∧ Dg 2 MI ∧ Dg 2 S) ∧ l.take 19 = textA Y MO D H MI S c [] := by
        rcases hk with hk | hk | hk
        · obtain ⟨Y, MO, D, H, MI, S, hd, e⟩ := like_A (by decide) hk
          exact ⟨Y, MO, D, H, MI, S, 84, hd, e⟩
        · obtain ⟨Y, MO, D, H, MI, S, hd, e⟩ := like_A (by decide) hk
          exact ⟨Y, MO, D, H, MI, S, 116, hd, e⟩
        · obtain ⟨Y, MO, D, H, MI, S, hd, e⟩ := like_A (by decide) hk
          exact ⟨Y, MO, D, H, MI, S, 32, hd, e⟩
      obtain ⟨Y, MO, D, H, MI, S, c, hd, e⟩ := hx
      have el : l = textA Y MO D H MI S c (l.drop 19) := by rw [textA_app, ← e, List.take_append_drop]
      have hd2 := hd
      obtain ⟨p1, p2, p3, p4, p5, p6, _, p8, _⟩ := atom_pieces hd c (l.drop 19)
      rw [← el] at p1 p2 p3 p4 p5 p6 p8
      have ev : atomP l = (fracP (l.drop 19)).bind fun z => (zoneA z).bind fun off => timeP (valG Y) (valG MO) (valG D) (valG H) (valG MI) (valG S) off := by
        unfold atomP
        rw [if_neg h20, if_pos hk, p1, p2, p3, p4, p5, p6, hd.1.digP, hd.2.1.digP, hd.2.2.1.digP, hd.2.2.2.1.digP, hd.2.2.2.2.1.digP, hd.2.2.2.2.2.digP]
      rw [ev]
      have h := ratom_yes Y MO D H MI S (l.drop 19) c hd2 w (by rw [List.length_drop]; omega) (by rw [List.length_drop]; omega) (by rw [← e]; exact hk)
      rw [← el] at h
      exact h
    · rw [show atomP l = none by unfold atomP; rw [if_neg h20, if_neg hk]]
      have hk' : ∀ c, ¬ likeP (l.take 19) (patA c) = true → likeP (l.take 19) (patA c) = false := fun c h => by simpa using h
      exact ratom_none l w (by omega) hl (hk' _ (fun h => hk (.inl h))) (hk' _ (fun h => hk (.inr (.inl h)))) (hk' _ (fun h => hk (.inr (.inr h))))
end Go.Proofs.YtocmppafmaehcaaDoor
