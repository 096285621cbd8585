/-
  The walk of the document's Mail of layer 3. Conditions: texts of at most 250 bytes.
-/
import Derived.Test.YtocmppafmaehcaaDoorRO
import Derived.Test.YtocmppafmaehcaaDoorDO
import Derived.Deep.RegionHeld3
import Derived.Deep.MidRow
import Derived.Deep.DeepCutAuto
import Derived.Deep.CutBlock
namespace Go.Proofs.YtocmppafmaehcaaDoor
open Go.RowKit
open Go.Lib

theorem RT.below {w w' : World} {a : Nat} {ws : List ByteArray} (h : RT w a ws) (hl : 0 < ws.length) (b : Below w.heap.size w w') : RT w' a ws := fun j hj =>
  (Below.cell b (p := ⟨a, j, none⟩) (names_lt h hl)).trans (h j hj)
theorem place_lt (x : List UInt8) : ∀ ws : List (List UInt8), placeP x ws < ws.length
  | [] => by simp [placeP]
  | y :: ws => by
    have := place_lt x ws
    unfold placeP
    simp only [List.length_cons]
    split
    · omega
    · split <;> omega
/-- The parts' block. -/
def PT (g : Nat) (a b c d e f o : Int) (w : World) : Prop := Blk g (.cells #[.int .i64 a, .int .i64 b, .int .i64 c, .int .i64 d, .int .i64 e, .int .i64 f, .int .i64 o] 31 (0, 0)) w
theorem grown_setsD (b : Nat) : ∀ (vs : List Value) (o : Nat) (w : World), w.grownBy (w.setCells b o vs) (some b) := by
  intro vs
  induction vs with
  | nil => intro o w; exact ⟨rfl, rfl, rfl, Nat.le_refl _, fun _ _ _ => rfl⟩
  | cons v vs ih =>
    intro o w
    have h1 := grown_set w b o v
    have h2 := ih (o + 1) (w.setCell ⟨b, o, none⟩ v)
    exact ⟨h2.os.trans h1.os, h2.tape.trans h1.tape, h2.output.trans h1.output, Nat.le_trans h1.size h2.size, fun k hk hne => (h2.block k (Nat.lt_of_lt_of_le hk h1.size) hne).trans (h1.block k hk hne)⟩
def setsD (cs : Array Value) : Nat → List Value → Array Value
  | _, [] => cs
  | o, v :: r => setsD (cs.setIfInBounds o v) (o + 1) r
theorem blk_setsD {b : Nat} {t : TypeId} {fr : Nat × Nat} : ∀ (vs : List Value) (o : Nat) (cs : Array Value) (w : World), Blk b (.cells cs t fr) w → Blk b (.cells (setsD cs o vs) t fr) (w.setCells b o vs)
  | [], _, _, _, h => h
  | v :: r, o, _, _, h => blk_setsD r (o + 1) _ _ (h.set o v)
theorem PT.there {g : Nat} {a b c d e f o : Int} {w : World} (H : PT g a b c d e f o w) : w.there g 0 7 := fun j hj => by
  rw [Nat.zero_add]
  refine ⟨?_, Blk.free H j⟩
  rw [Blk.cell H j, Array.getElem?_eq_getElem (by show j < 7; exact hj)]; rfl
theorem PT.stored {g : Nat} {a b c d e f o : Int} {w : World} (H : PT g a b c d e f o w) (a' b' c' d' e' f' o' : Int) : PT g a' b' c' d' e' f' o' (w.setCells g 0 [.int .i64 a', .int .i64 b', .int .i64 c', .int .i64 d', .int .i64 e', .int .i64 f', .int .i64 o']) := by
  have h0 := blk_setsD [.int .i64 a', .int .i64 b', .int .i64 c', .int .i64 d', .int .i64 e', .int .i64 f', .int .i64 o'] 0 _ _ H
  have e : setsD #[.int .i64 a, .int .i64 b, .int .i64 c, .int .i64 d, .int .i64 e, .int .i64 f, .int .i64 o] 0 [.int .i64 a', .int .i64 b', .int .i64 c', .int .i64 d', .int .i64 e', .int .i64 f', .int .i64 o'] = #[.int .i64 a', .int .i64 b', .int .i64 c', .int .i64 d', .int .i64 e', .int .i64 f', .int .i64 o'] := by simp [setsD]
  rw [e] at h0
  exact h0
theorem PT.kept {g : Nat} {a b c d e f o : Int} {w w' : World} (H : PT g a b c d e f o w) (h : Below w.heap.size w w') : PT g a b c d e f o w' := Blk.grown H (grown_below h none) (by simp)
theorem one7 (a b c d e f o : Int) : (#[.int .i64 a, .int .i64 b, .int .i64 c, .int .i64 d, .int .i64 e, .int .i64 f, .int .i64 o] : Array Value).all (·.oneCell') = true := by
  simp [Value.oneCell']
theorem Kept.sets {w0 w : World} (h : Kept w0 w) (g : Nat) (hg : w0.heap.size ≤ g) (vs : List Value) : Kept w0 (w.setCells g 0 vs) :=
  Below.grown h (grown_setsD g vs 0 w) (Below.size h) (fun k hk => by injection hk with hk; omega)
set_option maxRecDepth 100000 in
set_option maxHeartbeats 100000000 in
theorem rmail_any (l : List UInt8) (w : World) (hl : l.length ≤ 250) : Calls Tryd.prog 14 #[.string ⟨l.toArray⟩] w (TimOut (mailP l) w) := by
  have HW := Lib.hid (words_any l w (by omega))
  have HWL := Lib.hid (fun x hx => Nat.le_trans (words_le l x hx) hl)
  obtain ⟨R, hR⟩ : ∃ R, wordsP l = R := ⟨_, rfl⟩
  rw [show mailP l = (mailHead R).bind mailBody by unfold mailP; rw [hR]]
  have HR0 := Lib.hid (show 0 < (wordsP l).length from List.length_pos_iff.2 (words_ne l))
  rw [hR] at HW HWL HR0
  clear hR hl
  generalize (⟨l.toArray⟩ : ByteArray) = SS at *
  obtain ⟨res, hres⟩ : ∃ r, (mailHead R).bind mailBody = r := ⟨_, rfl⟩
  rw [hres]
  have HRES := Lib.hid hres
  clear hres
  unfold TimOut
  go_enter Tryd.func14, Tryd.ntmps14
  go_wp2_with fail
  refine HW.out.mono ?_
  rintro e w1 ⟨b, c, rfl, hcap, hRT, B1⟩
  clear HW
  have HWS := Lib.hid (WS.of hRT)
  clear hRT
  have hblt : b < w1.heap.size := by
    have hx0 := HWS.out 0 HR0.out
    cases hb : w1.heap[b]? with
    | none => unfold World.cell? at hx0; rw [hb] at hx0; cases hx0
    | some o => exact (Array.getElem?_eq_some_iff.1 hb).1
  obtain ⟨n, hn⟩ : ∃ n, R.length = n := ⟨_, rfl⟩
  rw [hn] at hcap
  rw [hn]
  have HN := Lib.hid hn
  clear hn
  go_upto_if 14 with (fail)
  go_cut [4] (HeadOut R b w)
  case first =>
    as_aux_lemma =>
      by_cases h6 : n = 6
      · have e6 : ((n : Int) == 6) = true := by simp; omega
        have hx0 := HWS.out 0 (by rw [HN.out]; omega)
        rw [Nat.zero_add] at hx0
        obtain ⟨x, hx⟩ : ∃ x, R.getD 0 [] = x := ⟨_, rfl⟩
        rw [hx] at hx0
        have HX := Lib.hid hx
        have HXL := Lib.hid (show x.length ≤ 250 by
          refine HWL.out x ?_
          rw [← hx]
          have h0 : 0 < R.length := by rw [HN.out]; omega
          simp [List.getD, List.getElem?_eq_getElem h0])
        clear hx
        have hsz : (⟨x.toArray⟩ : ByteArray).size = x.length := by rw [size_list]
        have hby : ∀ (h : 3 < (⟨x.toArray⟩ : ByteArray).size) (h2 : 3 < x.length), x[3] = (⟨x.toArray⟩ : ByteArray)[3]'h := fun h h2 => rfl
        have hsl : ∀ (h2 : 3 < x.length) W, (Instr.slice 9 (.string ⟨x.toArray⟩) none (some (.int .i64 3)) none).run Tryd.prog W = .ok (.string ⟨(x.take 3).toArray⟩) W := fun h2 W => slice_upto x _ 3 (by omega) rfl W
        have HSZ := Lib.hid hsz
        have HBY := Lib.hid hby
        have HSL := Lib.hid hsl
        clear hsz hby hsl
        have HH := Lib.hid (show mailHead R = if x.length = 4 ∧ x[3]? = some 44 ∧ 0 ≤ placeP (x.take 3) weekN then some (R.drop 1) else none by
          unfold mailHead; rw [if_pos (by rw [HN.out, h6]), HX.out])
        generalize hXX : (⟨x.toArray⟩ : ByteArray) = X at *
        clear hXX
        by_cases k4 : X.size = 4
        · have h3 : 3 < X.size := by omega
          have h3x : 3 < x.length := by rw [← HSZ.out]; exact h3
          have t4 : ((X.size : Int) == 4) = true := by simp; omega
          have t4' : ((X.size : Int) != 4) = false := by simp; omega
          have K4 := Lib.hid k4
          have hb3 := HBY.out h3 h3x
          clear k4
          by_cases k44 : X[3] = 44
          · have t44 : ((X[3].toNat : Int) == 44) = true := by rw [k44]; decide
            have t44' : ((X[3].toNat : Int) != 44) = false := by rw [k44]; decide
            have X44 := Lib.hid (show x[3]? = some 44 by rw [List.getElem?_eq_getElem h3x, hb3, k44])
            have sl := HSL.out h3x
            clear k44 hb3
            have hpl := fun a W h => place_any (x.take 3) a 7 weekB W h (by decide) 7 rfl
            rw [week_lists] at hpl
            have HPL := Lib.hid hpl
            clear hpl
            obtain ⟨v, hv⟩ : ∃ v, placeP (x.take 3) weekN = v := ⟨_, rfl⟩
            rw [hv] at HPL
            have HV := Lib.hid hv
            have hv1 := place_ge (x.take 3) weekN
            rw [hv] at hv1
            clear hv
            generalize (⟨(x.take 3).toArray⟩ : ByteArray) = X3 at *
            by_cases kv : 0 ≤ v
            · have tv : decide (v < 0) = false := by simp; omega
              go_upto_region 3 with fail
              have hkk : Kept w1 w1 := Below.refl _ _
              have hall : ∀ W, Kept w1 W → (Kept w1 W ∧ W.cell? ⟨b, 0, none⟩ = some (.string X)) := fun W hW => ⟨hW, (Below.cell hW (p := ⟨b, 0, none⟩) hblt).trans hx0⟩
              have HA := Lib.hid hall
              clear hall
              go_region_held3 (fun w' => Kept w1 w' ∧ w'.cell? ⟨b, 0, none⟩ = some (.string X))
                (first | assumption | exact HA.out _ (by assumption) | exact HA.out _ (Kept.drew (by assumption)) | exact HA.out _ (Kept.go (by assumption) (by assumption)) | exact HA.out _ (Kept.go (And.left (by assumption)) (by assumption)))
                (first
                  | (go_at_call 21; (with_reducible refine (Week_any _).mono ?_); rintro e w' ⟨rfl, hrt0, bl⟩; have hrt : RT w' w1.heap.size weekB := hrt0)
                  | (go_at_call 33; (with_reducible refine (HPL.out _ _ (by exact hrt)).mono ?_); rintro e w' ⟨rfl, rfl⟩))
              have hke : Kept w1 w' := And.left (by assumption)
              clear hrt hrt0 bl
              go_wp2_with fail
              go_meet
              refine ⟨1, R.drop 1, c - 1, by rw [List.length_drop, HN.out, h6], by rw [List.length_drop, HN.out]; omega, ?_, (WS.kept HWS.out hblt hke).tail, Nat.lt_of_lt_of_le hblt hke.size, fun y hy => HWL.out y (List.mem_of_mem_drop hy), B1.trans (hke.mono B1.size)⟩
              show mailHead R = _
              rw [HH.out, if_pos ⟨by rw [← HSZ.out]; exact K4.out, X44.out, by rw [HV.out]; exact kv⟩]
            · have tv : decide (v < 0) = true := by simp; omega
              have HRN := Lib.hid (show none = res by rw [← HRES.out, HH.out, if_neg (fun h => kv (by rw [← HV.out]; exact h.2.2))]; rfl)
              clear kv
              go_upto_region 3 with fail
              have hkk : Kept w1 w1 := Below.refl _ _
              have hall : ∀ W, Kept w1 W → (Kept w1 W ∧ W.cell? ⟨b, 0, none⟩ = some (.string X)) := fun W hW => ⟨hW, (Below.cell hW (p := ⟨b, 0, none⟩) hblt).trans hx0⟩
              have HA := Lib.hid hall
              clear hall
              go_region_held3 (fun w' => Kept w1 w' ∧ w'.cell? ⟨b, 0, none⟩ = some (.string X))
                (first | assumption | exact HA.out _ (by assumption) | exact HA.out _ (Kept.drew (by assumption)) | exact HA.out _ (Kept.go (by assumption) (by assumption)) | exact HA.out _ (Kept.go (And.left (by assumption)) (by assumption)))
                (first
                  | (go_at_call 21; (with_reducible refine (Week_any _).mono ?_); rintro e w' ⟨rfl, hrt0, bl⟩; have hrt : RT w' w1.heap.size weekB := hrt0)
                  | (go_at_call 33; (with_reducible refine (HPL.out _ _ (by exact hrt)).mono ?_); rintro e w' ⟨rfl, rfl⟩))
              have hke : Kept w1 w' := And.left (by assumption)
              clear hrt hrt0 bl
              go_wp2
              go_ret2
              exact ⟨by rw [← HRN.out]; rfl, B1.trans (hke.mono B1.size)⟩
          · have hne : X[3].toNat ≠ 44 := fun e => k44 (UInt8.toNat_inj.1 e)
            have t44 : ((X[3].toNat : Int) == 44) = false := by simp; omega
            have t44' : ((X[3].toNat : Int) != 44) = true := by simp; omega
            have HRN := Lib.hid (show none = res by
              rw [← HRES.out, HH.out, if_neg]
              · rfl
              · intro h
                have h2 := h.2.1
                rw [List.getElem?_eq_getElem h3x, hb3] at h2
                exact k44 (Option.some.inj h2))
            clear k44 hb3
            go_upto_region 3 with fail
            have hix : ∀ W, (Instr.index 9 (.string X) (.int .i64 3)).run Tryd.prog W = .ok (.int .u8 X[3].toNat) W := by
              intro W
              have h := run_index_string (P := Tryd.prog) W 9 X .i64 3 Tryd.underlying9
              rw [dif_pos ⟨by omega, by omega⟩] at h
              exact h
            go_quiet (fail)
            go_wp2
            go_ret2
            exact ⟨by rw [← HRN.out]; rfl, below_drewN B1 _⟩
        · have t4 : ((X.size : Int) == 4) = false := by simp; omega
          have t4' : ((X.size : Int) != 4) = true := by simp; omega
          have HRN := Lib.hid (show none = res by rw [← HRES.out, HH.out, if_neg (fun h => k4 (by rw [HSZ.out]; exact h.1))]; rfl)
          clear k4
          go_upto_region 3 with fail
          go_quiet (fail)
          go_wp2
          go_ret2
          exact ⟨by rw [← HRN.out]; rfl, below_drewN B1 _⟩
      · have e6 : ((n : Int) == 6) = false := by simp; omega
        have HM := Lib.hid (show mailHead R = some R by unfold mailHead; rw [if_neg (by rw [HN.out]; exact h6)])
        clear h6
        go_wp2_with fail
        go_meet
        exact ⟨0, R, c, by rw [HN.out], by rw [HN.out]; exact hcap, HM, HWS.out, hblt, HWL.out, B1⟩
  case rest =>
    obtain ⟨o, ws, c2, rfl, hcap2, HM, hWS, hbw, hwl, B2⟩ := hcut
    have HWS2 := Lib.hid hWS
    have HWL2 := Lib.hid hwl
    obtain ⟨w2, hw2⟩ : ∃ W, W = wc := ⟨_, rfl⟩
    subst hw2
    clear hWS hwl HWS HWL hcap HN HR0 hblt B1
    have HBD := Lib.hid (show mailBody ws = res by rw [← HRES.out, HM.out]; rfl)
    clear HM HRES
    by_cases h5 : ws.length = 5
    · rw [h5] at hcap2 ⊢
      obtain ⟨a, m, y, d, z, rfl⟩ : ∃ a m y d z, ws = [a, m, y, d, z] := by
        match ws, h5 with
        | [a, m, y, d, z], _ => exact ⟨a, m, y, d, z, rfl⟩
      clear h5
      have hL : [a, m, y, d, z].length = 5 := rfl
      have ca := HWS2.out 0 (by rw [hL]; decide)
      have cm := HWS2.out 1 (by rw [hL]; decide)
      have cy := HWS2.out 2 (by rw [hL]; decide)
      have cd := HWS2.out 3 (by rw [hL]; decide)
      have cz := HWS2.out 4 (by rw [hL]; decide)
      clear hL
      rw [Nat.add_zero] at ca
      change w2.cell? ⟨b, o, none⟩ = some (.string ⟨a.toArray⟩) at ca
      change w2.cell? ⟨b, o + 1, none⟩ = some (.string ⟨m.toArray⟩) at cm
      change w2.cell? ⟨b, o + 2, none⟩ = some (.string ⟨y.toArray⟩) at cy
      change w2.cell? ⟨b, o + 3, none⟩ = some (.string ⟨d.toArray⟩) at cd
      change w2.cell? ⟨b, o + 4, none⟩ = some (.string ⟨z.toArray⟩) at cz
      have la := HWL2.out a (by simp)
      have lm := HWL2.out m (by simp)
      have ly := HWL2.out y (by simp)
      have ld := HWL2.out d (by simp)
      have lz := HWL2.out z (by simp)
      have HBD2 : Hid (∃ _ : Decidable (MailOk a y d), (if MailOk a y d then
        (zoneM z).bind fun off => timeP (mailYear y) (placeP m monthsN + 1) (digP a) (digP (d.take 2)) (digP ((d.drop 3).take 2)) (if d.length = 8 then digP (d.drop 6) else 0) off
        else none) = res) := ⟨inferInstanceAs (Decidable (_ ∧ _)), HBD.out⟩
      clear HBD
      have Qa1 := Lib.hid (fun v (hv : likeP a [57] = v) W => rlikeV a [57] v hv (by omega) (by decide) W)
      have Qa2 := Lib.hid (fun v (hv : likeP a [57, 57] = v) W => rlikeV a [57, 57] v hv (by omega) (by decide) W)
      have Qy1 := Lib.hid (fun v (hv : likeP y [57, 57] = v) W => rlikeV y [57, 57] v hv (by omega) (by decide) W)
      have Qy2 := Lib.hid (fun v (hv : likeP y [57, 57, 57, 57] = v) W => rlikeV y [57, 57, 57, 57] v hv (by omega) (by decide) W)
      have Qd1 := Lib.hid (fun v (hv : likeP d [57, 57, 58, 57, 57] = v) W => rlikeV d [57, 57, 58, 57, 57] v hv (by omega) (by decide) W)
      have Qd2 := Lib.hid (fun v (hv : likeP d [57, 57, 58, 57, 57, 58, 57, 57] = v) W => rlikeV d [57, 57, 58, 57, 57, 58, 57, 57] v hv (by omega) (by decide) W)
      have hsa : (⟨a.toArray⟩ : ByteArray).size = a.length := by rw [size_list]
      have hsy : (⟨y.toArray⟩ : ByteArray).size = y.length := by rw [size_list]
      have hsd : (⟨d.toArray⟩ : ByteArray).size = d.length := by rw [size_list]
      have HSA := Lib.hid hsa
      have HSY := Lib.hid hsy
      have HSD := Lib.hid hsd
      clear hsa hsy hsd HWS2 HWL2
      have HC := Lib.hid (show ∀ W, Kept w2 W → (W.cell? ⟨b, o, none⟩ = some (.string ⟨a.toArray⟩) ∧ W.cell? ⟨b, o + 1, none⟩ = some (.string ⟨m.toArray⟩) ∧ W.cell? ⟨b, o + 2, none⟩ = some (.string ⟨y.toArray⟩) ∧ W.cell? ⟨b, o + 3, none⟩ = some (.string ⟨d.toArray⟩) ∧ W.cell? ⟨b, o + 4, none⟩ = some (.string ⟨z.toArray⟩)) from fun W hW => ⟨(Below.cell hW (p := ⟨b, o, none⟩) hbw).trans ca, (Below.cell hW (p := ⟨b, o + 1, none⟩) hbw).trans cm, (Below.cell hW (p := ⟨b, o + 2, none⟩) hbw).trans cy, (Below.cell hW (p := ⟨b, o + 3, none⟩) hbw).trans cd, (Below.cell hW (p := ⟨b, o + 4, none⟩) hbw).trans cz⟩)
      clear ca cm cy cd cz
      go_upto_region 6 with fail
      go_cut [82] (fun s82 wx => ∃ v : Bool, s82 = .bool v ∧ Hid (v = false ↔ MailOk a y d) ∧ Kept w2 wx)
      case first =>
        have hkk : Kept w2 w2 := Below.refl _ _
        as_aux_lemma =>
          obtain ⟨ca, _, cy, cd, _⟩ := HC.out _ hkk
          cases ka1 : likeP a [57] with
          | true =>
            have Ka1 := Lib.hid ka1
            clear ka1
            cases ky1 : likeP y [57, 57] with
            | true =>
              have Ky1 := Lib.hid ky1
              clear ky1
              cases kd1 : likeP d [57, 57, 58, 57, 57] with
              | true =>
                have Kd1 := Lib.hid kd1
                clear kd1
                go_wp2_with fail
                refine (Qa1.out true Ka1.out _).mono ?_
                rintro e wk0 ⟨rfl, bb⟩
                have hk0 : Kept w2 wk0 := Kept.go hkk bb
                obtain ⟨ca, _, cy, cd, _⟩ := HC.out _ hk0
                clear bb
                go_wp2_with fail
                refine (Qy1.out true Ky1.out _).mono ?_
                rintro e wk1 ⟨rfl, bb⟩
                have hk1 : Kept w2 wk1 := Kept.go hk0 bb
                obtain ⟨ca, _, cy, cd, _⟩ := HC.out _ hk1
                clear bb
                go_wp2_with fail
                refine (Qd1.out true Kd1.out _).mono ?_
                rintro e wk2 ⟨rfl, bb⟩
                have hk2 : Kept w2 wk2 := Kept.go hk1 bb
                obtain ⟨ca, _, cy, cd, _⟩ := HC.out _ hk2
                clear bb
                go_wp2_with fail
                go_meet
                exact ⟨false, rfl, ⟨fun _ => ⟨.inl Ka1.out, .inl Ky1.out, .inl Kd1.out⟩, fun _ => rfl⟩, hk2⟩
              | false =>
                have Kd1 := Lib.hid kd1
                clear kd1
                cases kd2 : likeP d [57, 57, 58, 57, 57, 58, 57, 57] with
                | true =>
                  have Kd2 := Lib.hid kd2
                  clear kd2
                  go_wp2_with fail
                  refine (Qa1.out true Ka1.out _).mono ?_
                  rintro e wk0 ⟨rfl, bb⟩
                  have hk0 : Kept w2 wk0 := Kept.go hkk bb
                  obtain ⟨ca, _, cy, cd, _⟩ := HC.out _ hk0
                  clear bb
                  go_wp2_with fail
                  refine (Qy1.out true Ky1.out _).mono ?_
                  rintro e wk1 ⟨rfl, bb⟩
                  have hk1 : Kept w2 wk1 := Kept.go hk0 bb
                  obtain ⟨ca, _, cy, cd, _⟩ := HC.out _ hk1
                  clear bb
                  go_wp2_with fail
                  refine (Qd1.out false Kd1.out _).mono ?_
                  rintro e wk2 ⟨rfl, bb⟩
                  have hk2 : Kept w2 wk2 := Kept.go hk1 bb
                  obtain ⟨ca, _, cy, cd, _⟩ := HC.out _ hk2
                  clear bb
                  go_wp2_with fail
                  refine (Qd2.out true Kd2.out _).mono ?_
                  rintro e wk3 ⟨rfl, bb⟩
                  have hk3 : Kept w2 wk3 := Kept.go hk2 bb
                  obtain ⟨ca, _, cy, cd, _⟩ := HC.out _ hk3
                  clear bb
                  go_wp2_with fail
                  go_meet
                  exact ⟨false, rfl, ⟨fun _ => ⟨.inl Ka1.out, .inl Ky1.out, .inr Kd2.out⟩, fun _ => rfl⟩, hk3⟩
                | false =>
                  have Kd2 := Lib.hid kd2
                  clear kd2
                  go_wp2_with fail
                  refine (Qa1.out true Ka1.out _).mono ?_
                  rintro e wk0 ⟨rfl, bb⟩
                  have hk0 : Kept w2 wk0 := Kept.go hkk bb
                  obtain ⟨ca, _, cy, cd, _⟩ := HC.out _ hk0
                  clear bb
                  go_wp2_with fail
                  refine (Qy1.out true Ky1.out _).mono ?_
                  rintro e wk1 ⟨rfl, bb⟩
                  have hk1 : Kept w2 wk1 := Kept.go hk0 bb
                  obtain ⟨ca, _, cy, cd, _⟩ := HC.out _ hk1
                  clear bb
                  go_wp2_with fail
                  refine (Qd1.out false Kd1.out _).mono ?_
                  rintro e wk2 ⟨rfl, bb⟩
                  have hk2 : Kept w2 wk2 := Kept.go hk1 bb
                  obtain ⟨ca, _, cy, cd, _⟩ := HC.out _ hk2
                  clear bb
                  go_wp2_with fail
                  refine (Qd2.out false Kd2.out _).mono ?_
                  rintro e wk3 ⟨rfl, bb⟩
                  have hk3 : Kept w2 wk3 := Kept.go hk2 bb
                  obtain ⟨ca, _, cy, cd, _⟩ := HC.out _ hk3
                  clear bb
                  go_wp2_with fail
                  go_meet
                  exact ⟨true, rfl, ⟨fun h => absurd h (by decide), fun h => absurd h.2.2 (by rw [Kd1.out, Kd2.out]; decide)⟩, hk3⟩
            | false =>
              have Ky1 := Lib.hid ky1
              clear ky1
              cases ky2 : likeP y [57, 57, 57, 57] with
              | true =>
                have Ky2 := Lib.hid ky2
                clear ky2
                cases kd1 : likeP d [57, 57, 58, 57, 57] with
                | true =>
                  have Kd1 := Lib.hid kd1
                  clear kd1
                  go_wp2_with fail
                  refine (Qa1.out true Ka1.out _).mono ?_
                  rintro e wk0 ⟨rfl, bb⟩
                  have hk0 : Kept w2 wk0 := Kept.go hkk bb
                  obtain ⟨ca, _, cy, cd, _⟩ := HC.out _ hk0
                  clear bb
                  go_wp2_with fail
                  refine (Qy1.out false Ky1.out _).mono ?_
                  rintro e wk1 ⟨rfl, bb⟩
                  have hk1 : Kept w2 wk1 := Kept.go hk0 bb
                  obtain ⟨ca, _, cy, cd, _⟩ := HC.out _ hk1
                  clear bb
                  go_wp2_with fail
                  refine (Qy2.out true Ky2.out _).mono ?_
                  rintro e wk2 ⟨rfl, bb⟩
                  have hk2 : Kept w2 wk2 := Kept.go hk1 bb
                  obtain ⟨ca, _, cy, cd, _⟩ := HC.out _ hk2
                  clear bb
                  go_wp2_with fail
                  refine (Qd1.out true Kd1.out _).mono ?_
                  rintro e wk3 ⟨rfl, bb⟩
                  have hk3 : Kept w2 wk3 := Kept.go hk2 bb
                  obtain ⟨ca, _, cy, cd, _⟩ := HC.out _ hk3
                  clear bb
                  go_wp2_with fail
                  go_meet
                  exact ⟨false, rfl, ⟨fun _ => ⟨.inl Ka1.out, .inr Ky2.out, .inl Kd1.out⟩, fun _ => rfl⟩, hk3⟩
                | false =>
                  have Kd1 := Lib.hid kd1
                  clear kd1
                  cases kd2 : likeP d [57, 57, 58, 57, 57, 58, 57, 57] with
                  | true =>
                    have Kd2 := Lib.hid kd2
                    clear kd2
                    go_wp2_with fail
                    refine (Qa1.out true Ka1.out _).mono ?_
                    rintro e wk0 ⟨rfl, bb⟩
                    have hk0 : Kept w2 wk0 := Kept.go hkk bb
                    obtain ⟨ca, _, cy, cd, _⟩ := HC.out _ hk0
                    clear bb
                    go_wp2_with fail
                    refine (Qy1.out false Ky1.out _).mono ?_
                    rintro e wk1 ⟨rfl, bb⟩
                    have hk1 : Kept w2 wk1 := Kept.go hk0 bb
                    obtain ⟨ca, _, cy, cd, _⟩ := HC.out _ hk1
                    clear bb
                    go_wp2_with fail
                    refine (Qy2.out true Ky2.out _).mono ?_
                    rintro e wk2 ⟨rfl, bb⟩
                    have hk2 : Kept w2 wk2 := Kept.go hk1 bb
                    obtain ⟨ca, _, cy, cd, _⟩ := HC.out _ hk2
                    clear bb
                    go_wp2_with fail
                    refine (Qd1.out false Kd1.out _).mono ?_
                    rintro e wk3 ⟨rfl, bb⟩
                    have hk3 : Kept w2 wk3 := Kept.go hk2 bb
                    obtain ⟨ca, _, cy, cd, _⟩ := HC.out _ hk3
                    clear bb
                    go_wp2_with fail
                    refine (Qd2.out true Kd2.out _).mono ?_
                    rintro e wk4 ⟨rfl, bb⟩
                    have hk4 : Kept w2 wk4 := Kept.go hk3 bb
                    obtain ⟨ca, _, cy, cd, _⟩ := HC.out _ hk4
                    clear bb
                    go_wp2_with fail
                    go_meet
                    exact ⟨false, rfl, ⟨fun _ => ⟨.inl Ka1.out, .inr Ky2.out, .inr Kd2.out⟩, fun _ => rfl⟩, hk4⟩
                  | false =>
                    have Kd2 := Lib.hid kd2
                    clear kd2
                    go_wp2_with fail
                    refine (Qa1.out true Ka1.out _).mono ?_
                    rintro e wk0 ⟨rfl, bb⟩
                    have hk0 : Kept w2 wk0 := Kept.go hkk bb
                    obtain ⟨ca, _, cy, cd, _⟩ := HC.out _ hk0
                    clear bb
                    go_wp2_with fail
                    refine (Qy1.out false Ky1.out _).mono ?_
                    rintro e wk1 ⟨rfl, bb⟩
                    have hk1 : Kept w2 wk1 := Kept.go hk0 bb
                    obtain ⟨ca, _, cy, cd, _⟩ := HC.out _ hk1
                    clear bb
                    go_wp2_with fail
                    refine (Qy2.out true Ky2.out _).mono ?_
                    rintro e wk2 ⟨rfl, bb⟩
                    have hk2 : Kept w2 wk2 := Kept.go hk1 bb
                    obtain ⟨ca, _, cy, cd, _⟩ := HC.out _ hk2
                    clear bb
                    go_wp2_with fail
                    refine (Qd1.out false Kd1.out _).mono ?_
                    rintro e wk3 ⟨rfl, bb⟩
                    have hk3 : Kept w2 wk3 := Kept.go hk2 bb
                    obtain ⟨ca, _, cy, cd, _⟩ := HC.out _ hk3
                    clear bb
                    go_wp2_with fail
                    refine (Qd2.out false Kd2.out _).mono ?_
                    rintro e wk4 ⟨rfl, bb⟩
                    have hk4 : Kept w2 wk4 := Kept.go hk3 bb
                    obtain ⟨ca, _, cy, cd, _⟩ := HC.out _ hk4
                    clear bb
                    go_wp2_with fail
                    go_meet
                    exact ⟨true, rfl, ⟨fun h => absurd h (by decide), fun h => absurd h.2.2 (by rw [Kd1.out, Kd2.out]; decide)⟩, hk4⟩
              | false =>
                have Ky2 := Lib.hid ky2
                clear ky2
                go_wp2_with fail
                refine (Qa1.out true Ka1.out _).mono ?_
                rintro e wk0 ⟨rfl, bb⟩
                have hk0 : Kept w2 wk0 := Kept.go hkk bb
                obtain ⟨ca, _, cy, cd, _⟩ := HC.out _ hk0
                clear bb
                go_wp2_with fail
                refine (Qy1.out false Ky1.out _).mono ?_
                rintro e wk1 ⟨rfl, bb⟩
                have hk1 : Kept w2 wk1 := Kept.go hk0 bb
                obtain ⟨ca, _, cy, cd, _⟩ := HC.out _ hk1
                clear bb
                go_wp2_with fail
                refine (Qy2.out false Ky2.out _).mono ?_
                rintro e wk2 ⟨rfl, bb⟩
                have hk2 : Kept w2 wk2 := Kept.go hk1 bb
                obtain ⟨ca, _, cy, cd, _⟩ := HC.out _ hk2
                clear bb
                go_wp2_with fail
                go_meet
                exact ⟨true, rfl, ⟨fun h => absurd h (by decide), fun h => absurd h.2.1 (by rw [Ky1.out, Ky2.out]; decide)⟩, hk2⟩
          | false =>
            have Ka1 := Lib.hid ka1
            clear ka1
            cases ka2 : likeP a [57, 57] with
            | true =>
              have Ka2 := Lib.hid ka2
              clear ka2
              cases ky1 : likeP y [57, 57] with
              | true =>
                have Ky1 := Lib.hid ky1
                clear ky1
                cases kd1 : likeP d [57, 57, 58, 57, 57] with
                | true =>
                  have Kd1 := Lib.hid kd1
                  clear kd1
                  go_wp2_with fail
                  refine (Qa1.out false Ka1.out _).mono ?_
                  rintro e wk0 ⟨rfl, bb⟩
                  have hk0 : Kept w2 wk0 := Kept.go hkk bb
                  obtain ⟨ca, _, cy, cd, _⟩ := HC.out _ hk0
                  clear bb
                  go_wp2_with fail
                  refine (Qa2.out true Ka2.out _).mono ?_
                  rintro e wk1 ⟨rfl, bb⟩
                  have hk1 : Kept w2 wk1 := Kept.go hk0 bb
                  obtain ⟨ca, _, cy, cd, _⟩ := HC.out _ hk1
                  clear bb
                  go_wp2_with fail
                  refine (Qy1.out true Ky1.out _).mono ?_
                  rintro e wk2 ⟨rfl, bb⟩
                  have hk2 : Kept w2 wk2 := Kept.go hk1 bb
                  obtain ⟨ca, _, cy, cd, _⟩ := HC.out _ hk2
                  clear bb
                  go_wp2_with fail
                  refine (Qd1.out true Kd1.out _).mono ?_
                  rintro e wk3 ⟨rfl, bb⟩
                  have hk3 : Kept w2 wk3 := Kept.go hk2 bb
                  obtain ⟨ca, _, cy, cd, _⟩ := HC.out _ hk3
                  clear bb
                  go_wp2_with fail
                  go_meet
                  exact ⟨false, rfl, ⟨fun _ => ⟨.inr Ka2.out, .inl Ky1.out, .inl Kd1.out⟩, fun _ => rfl⟩, hk3⟩
                | false =>
                  have Kd1 := Lib.hid kd1
                  clear kd1
                  cases kd2 : likeP d [57, 57, 58, 57, 57, 58, 57, 57] with
                  | true =>
                    have Kd2 := Lib.hid kd2
                    clear kd2
                    go_wp2_with fail
                    refine (Qa1.out false Ka1.out _).mono ?_
                    rintro e wk0 ⟨rfl, bb⟩
                    have hk0 : Kept w2 wk0 := Kept.go hkk bb
                    obtain ⟨ca, _, cy, cd, _⟩ := HC.out _ hk0
                    clear bb
                    go_wp2_with fail
                    refine (Qa2.out true Ka2.out _).mono ?_
                    rintro e wk1 ⟨rfl, bb⟩
                    have hk1 : Kept w2 wk1 := Kept.go hk0 bb
                    obtain ⟨ca, _, cy, cd, _⟩ := HC.out _ hk1
                    clear bb
                    go_wp2_with fail
                    refine (Qy1.out true Ky1.out _).mono ?_
                    rintro e wk2 ⟨rfl, bb⟩
                    have hk2 : Kept w2 wk2 := Kept.go hk1 bb
                    obtain ⟨ca, _, cy, cd, _⟩ := HC.out _ hk2
                    clear bb
                    go_wp2_with fail
                    refine (Qd1.out false Kd1.out _).mono ?_
                    rintro e wk3 ⟨rfl, bb⟩
                    have hk3 : Kept w2 wk3 := Kept.go hk2 bb
                    obtain ⟨ca, _, cy, cd, _⟩ := HC.out _ hk3
                    clear bb
                    go_wp2_with fail
                    refine (Qd2.out true Kd2.out _).mono ?_
                    rintro e wk4 ⟨rfl, bb⟩
                    have hk4 : Kept w2 wk4 := Kept.go hk3 bb
                    obtain ⟨ca, _, cy, cd, _⟩ := HC.out _ hk4
                    clear bb
                    go_wp2_with fail
                    go_meet
                    exact ⟨false, rfl, ⟨fun _ => ⟨.inr Ka2.out, .inl Ky1.out, .inr Kd2.out⟩, fun _ => rfl⟩, hk4⟩
                  | false =>
                    have Kd2 := Lib.hid kd2
                    clear kd2
                    go_wp2_with fail
                    refine (Qa1.out false Ka1.out _).mono ?_
                    rintro e wk0 ⟨rfl, bb⟩
                    have hk0 : Kept w2 wk0 := Kept.go hkk bb
                    obtain ⟨ca, _, cy, cd, _⟩ := HC.out _ hk0
                    clear bb
                    go_wp2_with fail
                    refine (Qa2.out true Ka2.out _).mono ?_
                    rintro e wk1 ⟨rfl, bb⟩
                    have hk1 : Kept w2 wk1 := Kept.go hk0 bb
                    obtain ⟨ca, _, cy, cd, _⟩ := HC.out _ hk1
                    clear bb
                    go_wp2_with fail
                    refine (Qy1.out true Ky1.out _).mono ?_
                    rintro e wk2 ⟨rfl, bb⟩
                    have hk2 : Kept w2 wk2 := Kept.go hk1 bb
                    obtain ⟨ca, _, cy, cd, _⟩ := HC.out _ hk2
                    clear bb
                    go_wp2_with fail
                    refine (Qd1.out false Kd1.out _).mono ?_
                    rintro e wk3 ⟨rfl, bb⟩
                    have hk3 : Kept w2 wk3 := Kept.go hk2 bb
                    obtain ⟨ca, _, cy, cd, _⟩ := HC.out _ hk3
                    clear bb
                    go_wp2_with fail
                    refine (Qd2.out false Kd2.out _).mono ?_
                    rintro e wk4 ⟨rfl, bb⟩
                    have hk4 : Kept w2 wk4 := Kept.go hk3 bb
                    obtain ⟨ca, _, cy, cd, _⟩ := HC.out _ hk4
                    clear bb
                    go_wp2_with fail
                    go_meet
                    exact ⟨true, rfl, ⟨fun h => absurd h (by decide), fun h => absurd h.2.2 (by rw [Kd1.out, Kd2.out]; decide)⟩, hk4⟩
              | false =>
                have Ky1 := Lib.hid ky1
                clear ky1
                cases ky2 : likeP y [57, 57, 57, 57] with
                | true =>
                  have Ky2 := Lib.hid ky2
                  clear ky2
                  cases kd1 : likeP d [57, 57, 58, 57, 57] with
                  | true =>
                    have Kd1 := Lib.hid kd1
                    clear kd1
                    go_wp2_with fail
                    refine (Qa1.out false Ka1.out _).mono ?_
                    rintro e wk0 ⟨rfl, bb⟩
                    have hk0 : Kept w2 wk0 := Kept.go hkk bb
                    obtain ⟨ca, _, cy, cd, _⟩ := HC.out _ hk0
                    clear bb
                    go_wp2_with fail
                    refine (Qa2.out true Ka2.out _).mono ?_
                    rintro e wk1 ⟨rfl, bb⟩
                    have hk1 : Kept w2 wk1 := Kept.go hk0 bb
                    obtain ⟨ca, _, cy, cd, _⟩ := HC.out _ hk1
                    clear bb
                    go_wp2_with fail
                    refine (Qy1.out false Ky1.out _).mono ?_
                    rintro e wk2 ⟨rfl, bb⟩
                    have hk2 : Kept w2 wk2 := Kept.go hk1 bb
                    obtain ⟨ca, _, cy, cd, _⟩ := HC.out _ hk2
                    clear bb
                    go_wp2_with fail
                    refine (Qy2.out true Ky2.out _).mono ?_
                    rintro e wk3 ⟨rfl, bb⟩
                    have hk3 : Kept w2 wk3 := Kept.go hk2 bb
                    obtain ⟨ca, _, cy, cd, _⟩ := HC.out _ hk3
                    clear bb
                    go_wp2_with fail
                    refine (Qd1.out true Kd1.out _).mono ?_
                    rintro e wk4 ⟨rfl, bb⟩
                    have hk4 : Kept w2 wk4 := Kept.go hk3 bb
                    obtain ⟨ca, _, cy, cd, _⟩ := HC.out _ hk4
                    clear bb
                    go_wp2_with fail
                    go_meet
                    exact ⟨false, rfl, ⟨fun _ => ⟨.inr Ka2.out, .inr Ky2.out, .inl Kd1.out⟩, fun _ => rfl⟩, hk4⟩
                  | false =>
                    have Kd1 := Lib.hid kd1
                    clear kd1
                    cases kd2 : likeP d [57, 57, 58, 57, 57, 58, 57, 57] with
                    | true =>
                      have Kd2 := Lib.hid kd2
                      clear kd2
                      go_wp2_with fail
                      refine (Qa1.out false Ka1.out _).mono ?_
                      rintro e wk0 ⟨rfl, bb⟩
                      have hk0 : Kept w2 wk0 := Kept.go hkk bb
                      obtain ⟨ca, _, cy, cd, _⟩ := HC.out _ hk0
                      clear bb
                      go_wp2_with fail
                      refine (Qa2.out true Ka2.out _).mono ?_
                      rintro e wk1 ⟨rfl, bb⟩
                      have hk1 : Kept w2 wk1 := Kept.go hk0 bb
                      obtain ⟨ca, _, cy, cd, _⟩ := HC.out _ hk1
                      clear bb
                      go_wp2_with fail
                      refine (Qy1.out false Ky1.out _).mono ?_
                      rintro e wk2 ⟨rfl, bb⟩
                      have hk2 : Kept w2 wk2 := Kept.go hk1 bb
                      obtain ⟨ca, _, cy, cd, _⟩ := HC.out _ hk2
                      clear bb
                      go_wp2_with fail
                      refine (Qy2.out true Ky2.out _).mono ?_
                      rintro e wk3 ⟨rfl, bb⟩
                      have hk3 : Kept w2 wk3 := Kept.go hk2 bb
                      obtain ⟨ca, _, cy, cd, _⟩ := HC.out _ hk3
                      clear bb
                      go_wp2_with fail
                      refine (Qd1.out false Kd1.out _).mono ?_
                      rintro e wk4 ⟨rfl, bb⟩
                      have hk4 : Kept w2 wk4 := Kept.go hk3 bb
                      obtain ⟨ca, _, cy, cd, _⟩ := HC.out _ hk4
                      clear bb
                      go_wp2_with fail
                      refine (Qd2.out true Kd2.out _).mono ?_
                      rintro e wk5 ⟨rfl, bb⟩
                      have hk5 : Kept w2 wk5 := Kept.go hk4 bb
                      obtain ⟨ca, _, cy, cd, _⟩ := HC.out _ hk5
                      clear bb
                      go_wp2_with fail
                      go_meet
                      exact ⟨false, rfl, ⟨fun _ => ⟨.inr Ka2.out, .inr Ky2.out, .inr Kd2.out⟩, fun _ => rfl⟩, hk5⟩
                    | false =>
                      have Kd2 := Lib.hid kd2
                      clear kd2
                      go_wp2_with fail
                      refine (Qa1.out false Ka1.out _).mono ?_
                      rintro e wk0 ⟨rfl, bb⟩
                      have hk0 : Kept w2 wk0 := Kept.go hkk bb
                      obtain ⟨ca, _, cy, cd, _⟩ := HC.out _ hk0
                      clear bb
                      go_wp2_with fail
                      refine (Qa2.out true Ka2.out _).mono ?_
                      rintro e wk1 ⟨rfl, bb⟩
                      have hk1 : Kept w2 wk1 := Kept.go hk0 bb
                      obtain ⟨ca, _, cy, cd, _⟩ := HC.out _ hk1
                      clear bb
                      go_wp2_with fail
                      refine (Qy1.out false Ky1.out _).mono ?_
                      rintro e wk2 ⟨rfl, bb⟩
                      have hk2 : Kept w2 wk2 := Kept.go hk1 bb
                      obtain ⟨ca, _, cy, cd, _⟩ := HC.out _ hk2
                      clear bb
                      go_wp2_with fail
                      refine (Qy2.out true Ky2.out _).mono ?_
                      rintro e wk3 ⟨rfl, bb⟩
                      have hk3 : Kept w2 wk3 := Kept.go hk2 bb
                      obtain ⟨ca, _, cy, cd, _⟩ := HC.out _ hk3
                      clear bb
                      go_wp2_with fail
                      refine (Qd1.out false Kd1.out _).mono ?_
                      rintro e wk4 ⟨rfl, bb⟩
                      have hk4 : Kept w2 wk4 := Kept.go hk3 bb
                      obtain ⟨ca, _, cy, cd, _⟩ := HC.out _ hk4
                      clear bb
                      go_wp2_with fail
                      refine (Qd2.out false Kd2.out _).mono ?_
                      rintro e wk5 ⟨rfl, bb⟩
                      have hk5 : Kept w2 wk5 := Kept.go hk4 bb
                      obtain ⟨ca, _, cy, cd, _⟩ := HC.out _ hk5
                      clear bb
                      go_wp2_with fail
                      go_meet
                      exact ⟨true, rfl, ⟨fun h => absurd h (by decide), fun h => absurd h.2.2 (by rw [Kd1.out, Kd2.out]; decide)⟩, hk5⟩
                | false =>
                  have Ky2 := Lib.hid ky2
                  clear ky2
                  go_wp2_with fail
                  refine (Qa1.out false Ka1.out _).mono ?_
                  rintro e wk0 ⟨rfl, bb⟩
                  have hk0 : Kept w2 wk0 := Kept.go hkk bb
                  obtain ⟨ca, _, cy, cd, _⟩ := HC.out _ hk0
                  clear bb
                  go_wp2_with fail
                  refine (Qa2.out true Ka2.out _).mono ?_
                  rintro e wk1 ⟨rfl, bb⟩
                  have hk1 : Kept w2 wk1 := Kept.go hk0 bb
                  obtain ⟨ca, _, cy, cd, _⟩ := HC.out _ hk1
                  clear bb
                  go_wp2_with fail
                  refine (Qy1.out false Ky1.out _).mono ?_
                  rintro e wk2 ⟨rfl, bb⟩
                  have hk2 : Kept w2 wk2 := Kept.go hk1 bb
                  obtain ⟨ca, _, cy, cd, _⟩ := HC.out _ hk2
                  clear bb
                  go_wp2_with fail
                  refine (Qy2.out false Ky2.out _).mono ?_
                  rintro e wk3 ⟨rfl, bb⟩
                  have hk3 : Kept w2 wk3 := Kept.go hk2 bb
                  obtain ⟨ca, _, cy, cd, _⟩ := HC.out _ hk3
                  clear bb
                  go_wp2_with fail
                  go_meet
                  exact ⟨true, rfl, ⟨fun h => absurd h (by decide), fun h => absurd h.2.1 (by rw [Ky1.out, Ky2.out]; decide)⟩, hk3⟩
            | false =>
              have Ka2 := Lib.hid ka2
              clear ka2
              go_wp2_with fail
              refine (Qa1.out false Ka1.out _).mono ?_
              rintro e wk0 ⟨rfl, bb⟩
              have hk0 : Kept w2 wk0 := Kept.go hkk bb
              obtain ⟨ca, _, cy, cd, _⟩ := HC.out _ hk0
              clear bb
              go_wp2_with fail
              refine (Qa2.out false Ka2.out _).mono ?_
              rintro e wk1 ⟨rfl, bb⟩
              have hk1 : Kept w2 wk1 := Kept.go hk0 bb
              obtain ⟨ca, _, cy, cd, _⟩ := HC.out _ hk1
              clear bb
              go_wp2_with fail
              go_meet
              exact ⟨true, rfl, ⟨fun h => absurd h (by decide), fun h => absurd h.1 (by rw [Ka1.out, Ka2.out]; decide)⟩, hk1⟩
      case rest =>
        obtain ⟨v, rfl, HV, hk3⟩ := hcut
        obtain ⟨w3, hw3⟩ : ∃ W, W = wc := ⟨_, rfl⟩
        subst hw3
        have B3 := B2.trans (hk3.mono B2.size)
        clear Qa1 Qa2 Qy1 Qy2 Qd1 Qd2
        cases v with
        | true =>
          have HRN := Lib.hid (show none = res by
            obtain ⟨i, e⟩ := HBD2.out
            rw [← e, if_neg (fun h => by have := HV.out.2 h; cases this)])
          go_wp2
          go_ret2
          exact ⟨by rw [← HRN.out]; rfl, B3⟩
        | false =>
          have hok := HV.out.1 rfl
          have HB := Lib.hid (show ((zoneM z).bind fun off => timeP (mailYear y) (placeP m monthsN + 1) (digP a) (digP (d.take 2)) (digP ((d.drop 3).take 2)) (if d.length = 8 then digP (d.drop 6) else 0) off) = res by
            obtain ⟨i, e⟩ := HBD2.out
            rw [if_pos hok] at e
            exact e)
          obtain ⟨⟨za, a0, a1⟩, ⟨zy, y0, y1⟩, ⟨h0, h1⟩, ⟨mi0, mi1⟩, hd⟩ := mail_facts hok
          clear hok HV HBD2
          have hd8 : 5 ≤ d.length ∧ d.length ≤ 8 := by omega
          have gA := Lib.hid (fun W => rdigL a _ rfl za W)
          have gY := Lib.hid (fun W => rdigL y _ rfl zy W)
          have gH := Lib.hid (fun W => rdigL (d.take 2) _ rfl (by rw [List.length_take]; omega) W)
          have gM := Lib.hid (fun W => rdigL ((d.drop 3).take 2) _ rfl (by rw [List.length_take]; omega) W)
          have gS := Lib.hid (fun W => rdigL (d.drop 6) _ rfl (by rw [List.length_drop]; omega) W)
          have s1 : ∀ W, (Instr.slice 9 (.string ⟨d.toArray⟩) none (some (.int .i64 2)) none).run Tryd.prog W = .ok (.string ⟨(d.take 2).toArray⟩) W := fun W => slice_upto d _ 2 (by omega) rfl W
          have s2 : ∀ W, (Instr.slice 9 (.string ⟨d.toArray⟩) (some (.int .i64 3)) (some (.int .i64 5)) none).run Tryd.prog W = .ok (.string ⟨((d.drop 3).take 2).toArray⟩) W := fun W => slice_mid d _ 3 5 (by omega) (by omega) rfl W
          have s3 : d.length = 8 → ∀ W, (Instr.slice 9 (.string ⟨d.toArray⟩) (some (.int .i64 6)) none none).run Tryd.prog W = .ok (.string ⟨(d.drop 6).toArray⟩) W := fun h W => slice_from d _ 6 (by omega) rfl W
          have QS1 := Lib.hid s1
          have QS2 := Lib.hid s2
          have QS3 := Lib.hid s3
          clear s1 s2 s3
          have HMY := Lib.hid (show mailYear y = if y.length = 2 then (if digP y < 50 then digP y + 2000 else digP y + 1900) else digP y from rfl)
          have vm0 := place_ge m monthsN
          have vm1 := place_le m monthsN
          change placeP m monthsN ≤ 12 at vm1
          have gP := Lib.hid (fun q W (h : RT W q monthsB) => place_any m q 12 monthsB W h (by decide) 12 rfl)
          rw [months_lists] at gP
          obtain ⟨vS, hvS⟩ : ∃ v, (if d.length = 8 then digP (d.drop 6) else 0) = v := ⟨_, rfl⟩
          rw [hvS] at HB
          have bS : 0 ≤ vS ∧ vS ≤ 99 := by rw [← hvS]; rcases hd with h | ⟨h, h2⟩ <;> split <;> omega
          have HVS := Lib.hid hvS
          clear hvS
          have hdl : d.length = 5 ∨ d.length = 8 := by omega
          clear hd
          have tl : (⟨d.toArray⟩ : ByteArray).size = d.length := by rw [size_list]
          have tY : (⟨y.toArray⟩ : ByteArray).size = y.length := by rw [size_list]
          have bY : 0 ≤ mailYear y ∧ mailYear y ≤ 9999 := by
            rw [HMY.out]
            split
            · rename_i h2
              have h99 : digP y ≤ 99 := by
                unfold digP
                split
                · rename_i hg
                  exact (dg2_bd ⟨h2, hg⟩).2
                · decide
              split <;> omega
            · exact ⟨y0, y1⟩
          generalize mailYear y = vY at *
          generalize placeP m monthsN = vmo at *
          generalize digP a = va at *
          generalize digP y = vy at *
          generalize digP (d.take 2) = vh at *
          generalize digP ((d.drop 3).take 2) = vmi at *
          generalize digP (d.drop 6) = vs6 at *
          obtain ⟨ca, cm, cy, cd, cz⟩ := HC.out _ hk3
          generalize (⟨a.toArray⟩ : ByteArray) = XA at *
          generalize (⟨m.toArray⟩ : ByteArray) = XM at *
          generalize (⟨y.toArray⟩ : ByteArray) = XY at *
          generalize (⟨(d.take 2).toArray⟩ : ByteArray) = XH at *
          generalize (⟨((d.drop 3).take 2).toArray⟩ : ByteArray) = XMI at *
          generalize (⟨(d.drop 6).toArray⟩ : ByteArray) = XS at *
          generalize (⟨d.toArray⟩ : ByteArray) = XD at *
          have TL := Lib.hid tl
          have TY := Lib.hid tY
          clear tl tY
          go_wp2_with fail
          refine (gY.out _).mono ?_
          rintro e w' ⟨rfl, rfl⟩
          go_upto_if 91 with (fail)
          go_cut [5] (fun s5 wx => s5 = .int .i64 vY ∧ wx = w3)
          case first =>
            by_cases e2 : XY.size = 2
            · have t2 : ((XY.size : Int) == 2) = true := by simp; omega
              by_cases e50 : vy < 50
              · have HQ := Lib.hid (show vY = vy + 2000 by rw [HMY.out, if_pos (by rw [← TY.out]; exact e2), if_pos e50])
                clear e2
                go_wp2_with fail
                go_meet
                exact ⟨by rw [HQ.out]; go_num, rfl⟩
              · have HQ := Lib.hid (show vY = vy + 1900 by rw [HMY.out, if_pos (by rw [← TY.out]; exact e2), if_neg e50])
                clear e2
                go_wp2_with fail
                go_meet
                exact ⟨by rw [HQ.out], rfl⟩
            · have t2 : ((XY.size : Int) == 2) = false := by simp; omega
              have HQ := Lib.hid (show vY = vy by rw [HMY.out, if_neg (by rw [← TY.out]; exact e2)])
              clear e2
              go_wp2_with fail
              go_meet
              exact ⟨by rw [HQ.out], rfl⟩
          case rest =>
            obtain ⟨rfl, rfl⟩ := hcut
            obtain ⟨w3, hw3⟩ : ∃ W, W = wc := ⟨_, rfl⟩
            subst hw3
            clear HMY gY cy
            go_upto_region 13 with fail
            go_cut [6] (fun s6 wx => ∃ g : Nat, s6 = .pointer (some ⟨g, 0, none⟩) ∧ w3.heap.size ≤ g ∧ PT g vY (vmo + 1) va vh vmi 0 0 wx ∧ Kept w3 wx)
            case first =>
              as_aux_lemma =>
                have s1 := QS1.out
                have s2 := QS2.out
                have hwr : IntKind.i64.wrap (vmo + 1) = vmo + 1 := IntWalk.i64_in _ (by omega)
                have K0 : Kept w3 w3.drew := Kept.drew (Below.refl _ _)
                clear ca cm cd cz
                refine wp_region_held_drew (S := fun W => Kept w3 W) (by kernel_rfl) K0 (fun hHeld => ?_)
                generalize w3.drew = wd at *
                refine wpAnyH_take (i := 0) (v := ?v1) rfl (by kernel_rfl) (by kernel_rfl) (by kernel_rfl) (fun _ _ _ h => h) (Or.inl ⟨by rfl, ?y1⟩) (by assumption) ?r1
                case y1 => (intro W hSw; go_simp <;> with_reducible rfl)
                change wpAnyH _ _ _ _ _ _ _ (Act.put _ (some 98) _) _
                simp only [Act.put, List.setIfInBounds_toArray, List.set_cons_zero, List.set_cons_succ]
                refine wpAnyH_take (i := 1) (v := ?v2) rfl (by kernel_rfl) (by kernel_rfl) (by kernel_rfl) (fun _ _ _ h => h) (Or.inl ⟨by rfl, ?y2⟩) (by assumption) ?r2
                case y2 => (intro W hSw; go_simp <;> with_reducible rfl)
                change wpAnyH _ _ _ _ _ _ _ (Act.put _ (some 99) _) _
                simp only [Act.put, List.setIfInBounds_toArray, List.set_cons_zero, List.set_cons_succ]
                refine wpAnyH_take (i := 2) (v := ?v3) rfl (by kernel_rfl) (by kernel_rfl) (by kernel_rfl) (fun _ _ _ h => h) (Or.inl ⟨by rfl, ?y3⟩) (by assumption) ?r3
                case y3 => (intro W hSw; go_simp <;> with_reducible rfl)
                change wpAnyH _ _ _ _ _ _ _ (Act.put _ (some 100) _) _
                simp only [Act.put, List.setIfInBounds_toArray, List.set_cons_zero, List.set_cons_succ]
                refine wpAnyH_take (i := 3) (v := ?v4) rfl (by kernel_rfl) (by kernel_rfl) (by kernel_rfl) (fun _ _ _ h => h) (Or.inl ⟨by rfl, ?y4⟩) (by assumption) ?r4
                case y4 => (intro W hSw; obtain ⟨ca, cm, _, cd, _⟩ := HC.out _ (Kept.go hk3 hSw); go_simp <;> with_reducible rfl)
                change wpAnyH _ _ _ _ _ _ _ (Act.put _ (some 101) _) _
                simp only [Act.put, List.setIfInBounds_toArray, List.set_cons_zero, List.set_cons_succ]
                refine wpAnyH_take (i := 7) (v := ?v5) rfl (by kernel_rfl) (by kernel_rfl) (by kernel_rfl) (fun _ _ _ h => h) (Or.inl ⟨by rfl, ?y5⟩) (by assumption) ?r5
                case y5 => (intro W hSw; go_simp <;> with_reducible rfl)
                change wpAnyH _ _ _ _ _ _ _ (Act.put _ (some 105) _) _
                simp only [Act.put, List.setIfInBounds_toArray, List.set_cons_zero, List.set_cons_succ]
                refine wpAnyH_take (i := 8) (v := ?v6) rfl (by kernel_rfl) (by kernel_rfl) (by kernel_rfl) (fun _ _ _ h => h) (Or.inl ⟨by rfl, ?y6⟩) (by assumption) ?r6
                case y6 => (intro W hSw; go_simp <;> with_reducible rfl)
                change wpAnyH _ _ _ _ _ _ _ (Act.put _ (some 106) _) _
                simp only [Act.put, List.setIfInBounds_toArray, List.set_cons_zero, List.set_cons_succ]
                refine wpAnyH_take (i := 9) (v := ?v7) rfl (by kernel_rfl) (by kernel_rfl) (by kernel_rfl) (fun _ _ _ h => h) (Or.inl ⟨by rfl, ?y7⟩) (by assumption) ?r7
                case y7 => (intro W hSw; obtain ⟨ca, cm, _, cd, _⟩ := HC.out _ (Kept.go hk3 hSw); go_simp <;> with_reducible rfl)
                change wpAnyH _ _ _ _ _ _ _ (Act.put _ (some 107) _) _
                simp only [Act.put, List.setIfInBounds_toArray, List.set_cons_zero, List.set_cons_succ]
                refine wpAnyH_take (i := 11) (v := ?v8) rfl (by kernel_rfl) (by kernel_rfl) (by kernel_rfl) (fun _ _ _ h => h) (Or.inl ⟨by rfl, ?y8⟩) (by assumption) ?r8
                case y8 => (intro W hSw; go_simp <;> with_reducible rfl)
                change wpAnyH _ _ _ _ _ _ _ (Act.put _ (some 109) _) _
                simp only [Act.put, List.setIfInBounds_toArray, List.set_cons_zero, List.set_cons_succ]
                refine wpAnyH_take (i := 12) (v := ?v9) rfl (by kernel_rfl) (by kernel_rfl) (by kernel_rfl) (fun _ _ _ h => h) (Or.inl ⟨by rfl, ?y9⟩) (by assumption) ?r9
                case y9 => (intro W hSw; go_simp <;> with_reducible rfl)
                change wpAnyH _ _ _ _ _ _ _ (Act.put _ (some 110) _) _
                simp only [Act.put, List.setIfInBounds_toArray, List.set_cons_zero, List.set_cons_succ]
                refine wpAnyH_take (i := 13) (v := ?v10) rfl (by kernel_rfl) (by kernel_rfl) (by kernel_rfl) (fun _ _ _ h => h) (Or.inl ⟨by rfl, ?y10⟩) (by assumption) ?r10
                case y10 => (intro W hSw; obtain ⟨ca, cm, _, cd, _⟩ := HC.out _ (Kept.go hk3 hSw); go_simp <;> with_reducible rfl)
                change wpAnyH _ _ _ _ _ _ _ (Act.put _ (some 111) _) _
                simp only [Act.put, List.setIfInBounds_toArray, List.set_cons_zero, List.set_cons_succ]
                refine wpAnyH_take (i := 14) (v := ?v11) rfl (by kernel_rfl) (by kernel_rfl) (by kernel_rfl) (fun _ _ _ h => h) (Or.inl ⟨by rfl, ?y11⟩) (by assumption) ?r11
                case y11 => (intro W hSw; go_simp <;> with_reducible rfl)
                change wpAnyH _ _ _ _ _ _ _ (Act.put _ (some 112) _) _
                simp only [Act.put, List.setIfInBounds_toArray, List.set_cons_zero, List.set_cons_succ]
                refine wpAnyH_take (i := 16) (v := ?v12) rfl (by kernel_rfl) (by kernel_rfl) (by kernel_rfl) (fun _ _ _ h => h) (Or.inl ⟨by rfl, ?y12⟩) (by assumption) ?r12
                case y12 => (intro W hSw; go_simp <;> with_reducible rfl)
                change wpAnyH _ _ _ _ _ _ _ (Act.put _ (some 114) _) _
                simp only [Act.put, List.setIfInBounds_toArray, List.set_cons_zero, List.set_cons_succ]
                refine wpAnyH_take (i := 17) (v := ?v13) rfl (by kernel_rfl) (by kernel_rfl) (by kernel_rfl) (fun _ _ _ h => h) (Or.inl ⟨by rfl, ?y13⟩) (by assumption) ?r13
                case y13 => (intro W hSw; go_simp <;> with_reducible rfl)
                change wpAnyH _ _ _ _ _ _ _ (Act.put _ (some 115) _) _
                simp only [Act.put, List.setIfInBounds_toArray, List.set_cons_zero, List.set_cons_succ]
                refine wpAnyH_take (i := 18) (v := ?v14) rfl (by kernel_rfl) (by kernel_rfl) (by kernel_rfl) (fun _ _ _ h => h) (Or.inl ⟨by rfl, ?y14⟩) (by assumption) ?r14
                case y14 => (intro W hSw; obtain ⟨ca, cm, _, cd, _⟩ := HC.out _ (Kept.go hk3 hSw); go_simp <;> with_reducible rfl)
                change wpAnyH _ _ _ _ _ _ _ (Act.put _ (some 116) _) _
                simp only [Act.put, List.setIfInBounds_toArray, List.set_cons_zero, List.set_cons_succ]
                refine wpAnyH_take (i := 19) (v := ?v15) rfl (by kernel_rfl) (by kernel_rfl) (by kernel_rfl) (fun _ _ _ h => h) (Or.inl ⟨by rfl, ?y15⟩) (by assumption) ?r15
                case y15 => (intro W hSw; go_simp <;> with_reducible rfl)
                change wpAnyH _ _ _ _ _ _ _ (Act.put _ (some 117) _) _
                simp only [Act.put, List.setIfInBounds_toArray, List.set_cons_zero, List.set_cons_succ]
                refine wpAnyH_ready (rs := [4, 23]) (by kernel_rfl) (by simp) ?_
                refine AllReadyH.cons rfl (fun K hK => ?_) (AllReadyH.cons rfl (fun K hK => ?_) AllReadyH.nil)
                · as_aux_lemma =>
                    go_simp
                    refine (Months_any _).mono ?_
                    rintro e wM16 ⟨rfl, hrt16, bl16⟩
                    have KM16 := Kept.go K0 bl16
                    refine hK.out _ _ KM16 (fun _ => ?_)
                    clear hK K
                    clear bl16
                    refine wpAnyH_ready (rs := [5, 23]) (by kernel_rfl) (by simp) ?_
                    refine AllReadyH.cons rfl (fun K hK => ?_) (AllReadyH.cons rfl (fun K hK => ?_) AllReadyH.nil)
                    · as_aux_lemma =>
                        go_simp
                        refine (gP.out _ _ hrt16).mono ?_
                        rintro e w' ⟨rfl, rfl⟩
                        refine hK.out _ _ KM16 (fun _ => ?_)
                        clear hK K
                        refine wpAnyH_take (i := 6) (v := ?v18) rfl (by kernel_rfl) (by kernel_rfl) (by kernel_rfl) (fun _ _ _ h => h) (Or.inl ⟨by rfl, ?y18⟩) (by assumption) ?r18
                        case y18 => (intro W hSw; go_simp <;> with_reducible rfl)
                        change wpAnyH _ _ _ _ _ _ _ (Act.put _ (some 104) _) _
                        simp only [Act.put, List.setIfInBounds_toArray, List.set_cons_zero, List.set_cons_succ]
                        refine wpAnyH_ready (rs := [10, 23]) (by kernel_rfl) (by simp) ?_
                        refine AllReadyH.cons rfl (fun K hK => ?_) (AllReadyH.cons rfl (fun K hK => ?_) AllReadyH.nil)
                        · as_aux_lemma =>
                            go_simp
                            refine (gA.out _).mono ?_
                            rintro e w' ⟨rfl, rfl⟩
                            refine hK.out _ _ KM16 (fun _ => ?_)
                            clear hK K
                            refine wpAnyH_ready (rs := [15, 23]) (by kernel_rfl) (by simp) ?_
                            refine AllReadyH.cons rfl (fun K hK => ?_) (AllReadyH.cons rfl (fun K hK => ?_) AllReadyH.nil)
                            · as_aux_lemma =>
                                go_simp
                                refine (gH.out _).mono ?_
                                rintro e w' ⟨rfl, rfl⟩
                                refine hK.out _ _ KM16 (fun _ => ?_)
                                clear hK K
                                refine wpAnyH_ready (rs := [20, 23]) (by kernel_rfl) (by simp) ?_
                                refine AllReadyH.cons rfl (fun K hK => ?_) (AllReadyH.cons rfl (fun K hK => ?_) AllReadyH.nil)
                                · as_aux_lemma =>
                                    go_simp
                                    refine (gM.out _).mono ?_
                                    rintro e w' ⟨rfl, rfl⟩
                                    refine hK.out _ _ KM16 (fun _ => ?_)
                                    clear hK K
                                    refine wpAnyH_take (i := 21) (v := .agg #[.int .i64 vY, .int .i64 (vmo + 1), .int .i64 va, .int .i64 vh, .int .i64 vmi, .int .i64 0]) rfl (by kernel_rfl) (by kernel_rfl) (by kernel_rfl) (fun _ _ _ h => h) (Or.inl ⟨by rfl, fun W _ => build6 rfl rfl rfl rfl rfl rfl rfl W⟩) (by assumption) ?_
                                    change wpAnyH _ _ _ _ _ _ _ (Act.put _ (some 119) _) _
                                    simp only [Act.put, List.setIfInBounds_toArray, List.set_cons_zero, List.set_cons_succ]
                                    refine wpAnyH_take (i := 22) (v := .agg #[.int .i64 vY, .int .i64 (vmo + 1), .int .i64 va, .int .i64 vh, .int .i64 vmi, .int .i64 0, .int .i64 0]) rfl (by kernel_rfl) (by kernel_rfl) (by kernel_rfl) (fun _ _ _ h => h) (Or.inl ⟨by rfl, fun W _ => build7 rfl rfl W⟩) (by assumption) ?_
                                    change wpAnyH _ _ _ _ _ _ _ (Act.put _ (some 120) _) _
                                    simp only [Act.put, List.setIfInBounds_toArray, List.set_cons_zero, List.set_cons_succ]
                                    refine wpAnyH_ready (rs := [23]) (by kernel_rfl) (by simp) ?_
                                    refine AllReadyH.cons rfl (fun K hK => ?_) AllReadyH.nil
                                    go_simp
                                    refine hK.out _ _ (Kept.alloc KM16 _) (fun _ => ?_)
                                    clear hK K
                                    have PA22 : PT wM16.heap.size 0 0 0 0 0 0 0 (wM16.alloc (.cells #[.int .i64 0, .int .i64 0, .int .i64 0, .int .i64 0, .int .i64 0, .int .i64 0, .int .i64 0] 31)) := Blk.new _ wM16
                                    have KA22 := Kept.alloc KM16 (.cells #[.int .i64 0, .int .i64 0, .int .i64 0, .int .i64 0, .int .i64 0, .int .i64 0, .int .i64 0] 31)
                                    have hga22 : w3.heap.size ≤ wM16.heap.size := Below.size KM16
                                    have hrt22 := RT.below hrt16 (by decide) (Below.alloc (Below.refl _ wM16) (Nat.le_refl _) (.cells #[.int .i64 0, .int .i64 0, .int .i64 0, .int .i64 0, .int .i64 0, .int .i64 0, .int .i64 0] 31))
                                    generalize hwA22 : wM16.alloc (.cells #[.int .i64 0, .int .i64 0, .int .i64 0, .int .i64 0, .int .i64 0, .int .i64 0, .int .i64 0] 31) = wA22 at *
                                    clear hwA22
                                    refine wpAnyH_ready (rs := [24]) (by kernel_rfl) (by simp) ?_
                                    refine AllReadyH.cons rfl (fun K hK => ?_) AllReadyH.nil
                                    have PS := PT.stored PA22 vY (vmo + 1) va vh vmi 0 0
                                    have KS := Kept.sets KA22 wM16.heap.size hga22 [.int .i64 vY, .int .i64 (vmo + 1), .int .i64 va, .int .i64 vh, .int .i64 vmi, .int .i64 0, .int .i64 0]
                                    refine wp_store_mid _ _ _ rfl wM16.heap.size 0 #[.int .i64 vY, .int .i64 (vmo + 1), .int .i64 va, .int .i64 vh, .int .i64 vmi, .int .i64 0, .int .i64 0] rfl rfl (PT.there PA22) (by kernel_rfl) (one7 _ _ _ _ _ _ _) ?_
                                    refine hK.out _ _ KS (fun _ => ?_)
                                    clear hK K
                                    refine wpAnyH_done (by kernel_rfl) ?_ _
                                    go_wp2_with fail
                                    go_meet
                                    exact ⟨_, rfl, hga22, PS, KS⟩
                                · as_aux_lemma =>
                                    go_simp
                                    refine hK.out _ _ (Kept.alloc KM16 _) (fun _ => ?_)
                                    clear hK K
                                    have PA24 : PT wM16.heap.size 0 0 0 0 0 0 0 (wM16.alloc (.cells #[.int .i64 0, .int .i64 0, .int .i64 0, .int .i64 0, .int .i64 0, .int .i64 0, .int .i64 0] 31)) := Blk.new _ wM16
                                    have KA24 := Kept.alloc KM16 (.cells #[.int .i64 0, .int .i64 0, .int .i64 0, .int .i64 0, .int .i64 0, .int .i64 0, .int .i64 0] 31)
                                    have hga24 : w3.heap.size ≤ wM16.heap.size := Below.size KM16
                                    have hrt24 := RT.below hrt16 (by decide) (Below.alloc (Below.refl _ wM16) (Nat.le_refl _) (.cells #[.int .i64 0, .int .i64 0, .int .i64 0, .int .i64 0, .int .i64 0, .int .i64 0, .int .i64 0] 31))
                                    generalize hwA24 : wM16.alloc (.cells #[.int .i64 0, .int .i64 0, .int .i64 0, .int .i64 0, .int .i64 0, .int .i64 0, .int .i64 0] 31) = wA24 at *
                                    clear hwA24
                                    refine wpAnyH_ready (rs := [20]) (by kernel_rfl) (by simp) ?_
                                    refine AllReadyH.cons rfl (fun K hK => ?_) AllReadyH.nil
                                    go_simp
                                    refine (gM.out _).mono ?_
                                    rintro e w' ⟨rfl, rfl⟩
                                    refine hK.out _ _ KA24 (fun _ => ?_)
                                    clear hK K
                                    refine wpAnyH_take (i := 21) (v := .agg #[.int .i64 vY, .int .i64 (vmo + 1), .int .i64 va, .int .i64 vh, .int .i64 vmi, .int .i64 0]) rfl (by kernel_rfl) (by kernel_rfl) (by kernel_rfl) (fun _ _ _ h => h) (Or.inl ⟨by rfl, fun W _ => build6 rfl rfl rfl rfl rfl rfl rfl W⟩) (by assumption) ?_
                                    change wpAnyH _ _ _ _ _ _ _ (Act.put _ (some 119) _) _
                                    simp only [Act.put, List.setIfInBounds_toArray, List.set_cons_zero, List.set_cons_succ]
                                    refine wpAnyH_take (i := 22) (v := .agg #[.int .i64 vY, .int .i64 (vmo + 1), .int .i64 va, .int .i64 vh, .int .i64 vmi, .int .i64 0, .int .i64 0]) rfl (by kernel_rfl) (by kernel_rfl) (by kernel_rfl) (fun _ _ _ h => h) (Or.inl ⟨by rfl, fun W _ => build7 rfl rfl W⟩) (by assumption) ?_
                                    change wpAnyH _ _ _ _ _ _ _ (Act.put _ (some 120) _) _
                                    simp only [Act.put, List.setIfInBounds_toArray, List.set_cons_zero, List.set_cons_succ]
                                    refine wpAnyH_ready (rs := [24]) (by kernel_rfl) (by simp) ?_
                                    refine AllReadyH.cons rfl (fun K hK => ?_) AllReadyH.nil
                                    have PS := PT.stored PA24 vY (vmo + 1) va vh vmi 0 0
                                    have KS := Kept.sets KA24 wM16.heap.size hga24 [.int .i64 vY, .int .i64 (vmo + 1), .int .i64 va, .int .i64 vh, .int .i64 vmi, .int .i64 0, .int .i64 0]
                                    refine wp_store_mid _ _ _ rfl wM16.heap.size 0 #[.int .i64 vY, .int .i64 (vmo + 1), .int .i64 va, .int .i64 vh, .int .i64 vmi, .int .i64 0, .int .i64 0] rfl rfl (PT.there PA24) (by kernel_rfl) (one7 _ _ _ _ _ _ _) ?_
                                    refine hK.out _ _ KS (fun _ => ?_)
                                    clear hK K
                                    refine wpAnyH_done (by kernel_rfl) ?_ _
                                    go_wp2_with fail
                                    go_meet
                                    exact ⟨_, rfl, hga24, PS, KS⟩
                            · as_aux_lemma =>
                                go_simp
                                refine hK.out _ _ (Kept.alloc KM16 _) (fun _ => ?_)
                                clear hK K
                                have PA27 : PT wM16.heap.size 0 0 0 0 0 0 0 (wM16.alloc (.cells #[.int .i64 0, .int .i64 0, .int .i64 0, .int .i64 0, .int .i64 0, .int .i64 0, .int .i64 0] 31)) := Blk.new _ wM16
                                have KA27 := Kept.alloc KM16 (.cells #[.int .i64 0, .int .i64 0, .int .i64 0, .int .i64 0, .int .i64 0, .int .i64 0, .int .i64 0] 31)
                                have hga27 : w3.heap.size ≤ wM16.heap.size := Below.size KM16
                                have hrt27 := RT.below hrt16 (by decide) (Below.alloc (Below.refl _ wM16) (Nat.le_refl _) (.cells #[.int .i64 0, .int .i64 0, .int .i64 0, .int .i64 0, .int .i64 0, .int .i64 0, .int .i64 0] 31))
                                generalize hwA27 : wM16.alloc (.cells #[.int .i64 0, .int .i64 0, .int .i64 0, .int .i64 0, .int .i64 0, .int .i64 0, .int .i64 0] 31) = wA27 at *
                                clear hwA27
                                refine wpAnyH_ready (rs := [15]) (by kernel_rfl) (by simp) ?_
                                refine AllReadyH.cons rfl (fun K hK => ?_) AllReadyH.nil
                                go_simp
                                refine (gH.out _).mono ?_
                                rintro e w' ⟨rfl, rfl⟩
                                refine hK.out _ _ KA27 (fun _ => ?_)
                                clear hK K
                                refine wpAnyH_ready (rs := [20]) (by kernel_rfl) (by simp) ?_
                                refine AllReadyH.cons rfl (fun K hK => ?_) AllReadyH.nil
                                go_simp
                                refine (gM.out _).mono ?_
                                rintro e w' ⟨rfl, rfl⟩
                                refine hK.out _ _ KA27 (fun _ => ?_)
                                clear hK K
                                refine wpAnyH_take (i := 21) (v := .agg #[.int .i64 vY, .int .i64 (vmo + 1), .int .i64 va, .int .i64 vh, .int .i64 vmi, .int .i64 0]) rfl (by kernel_rfl) (by kernel_rfl) (by kernel_rfl) (fun _ _ _ h => h) (Or.inl ⟨by rfl, fun W _ => build6 rfl rfl rfl rfl rfl rfl rfl W⟩) (by assumption) ?_
                                change wpAnyH _ _ _ _ _ _ _ (Act.put _ (some 119) _) _
                                simp only [Act.put, List.setIfInBounds_toArray, List.set_cons_zero, List.set_cons_succ]
                                refine wpAnyH_take (i := 22) (v := .agg #[.int .i64 vY, .int .i64 (vmo + 1), .int .i64 va, .int .i64 vh, .int .i64 vmi, .int .i64 0, .int .i64 0]) rfl (by kernel_rfl) (by kernel_rfl) (by kernel_rfl) (fun _ _ _ h => h) (Or.inl ⟨by rfl, fun W _ => build7 rfl rfl W⟩) (by assumption) ?_
                                change wpAnyH _ _ _ _ _ _ _ (Act.put _ (some 120) _) _
                                simp only [Act.put, List.setIfInBounds_toArray, List.set_cons_zero, List.set_cons_succ]
                                refine wpAnyH_ready (rs := [24]) (by kernel_rfl) (by simp) ?_
                                refine AllReadyH.cons rfl (fun K hK => ?_) AllReadyH.nil
                                have PS := PT.stored PA27 vY (vmo + 1) va vh vmi 0 0
                                have KS := Kept.sets KA27 wM16.heap.size hga27 [.int .i64 vY, .int .i64 (vmo + 1), .int .i64 va, .int .i64 vh, .int .i64 vmi, .int .i64 0, .int .i64 0]
                                refine wp_store_mid _ _ _ rfl wM16.heap.size 0 #[.int .i64 vY, .int .i64 (vmo + 1), .int .i64 va, .int .i64 vh, .int .i64 vmi, .int .i64 0, .int .i64 0] rfl rfl (PT.there PA27) (by kernel_rfl) (one7 _ _ _ _ _ _ _) ?_
                                refine hK.out _ _ KS (fun _ => ?_)
                                clear hK K
                                refine wpAnyH_done (by kernel_rfl) ?_ _
                                go_wp2_with fail
                                go_meet
                                exact ⟨_, rfl, hga27, PS, KS⟩
                        · as_aux_lemma =>
                            go_simp
                            refine hK.out _ _ (Kept.alloc KM16 _) (fun _ => ?_)
                            clear hK K
                            have PA31 : PT wM16.heap.size 0 0 0 0 0 0 0 (wM16.alloc (.cells #[.int .i64 0, .int .i64 0, .int .i64 0, .int .i64 0, .int .i64 0, .int .i64 0, .int .i64 0] 31)) := Blk.new _ wM16
                            have KA31 := Kept.alloc KM16 (.cells #[.int .i64 0, .int .i64 0, .int .i64 0, .int .i64 0, .int .i64 0, .int .i64 0, .int .i64 0] 31)
                            have hga31 : w3.heap.size ≤ wM16.heap.size := Below.size KM16
                            have hrt31 := RT.below hrt16 (by decide) (Below.alloc (Below.refl _ wM16) (Nat.le_refl _) (.cells #[.int .i64 0, .int .i64 0, .int .i64 0, .int .i64 0, .int .i64 0, .int .i64 0, .int .i64 0] 31))
                            generalize hwA31 : wM16.alloc (.cells #[.int .i64 0, .int .i64 0, .int .i64 0, .int .i64 0, .int .i64 0, .int .i64 0, .int .i64 0] 31) = wA31 at *
                            clear hwA31
                            refine wpAnyH_ready (rs := [10]) (by kernel_rfl) (by simp) ?_
                            refine AllReadyH.cons rfl (fun K hK => ?_) AllReadyH.nil
                            go_simp
                            refine (gA.out _).mono ?_
                            rintro e w' ⟨rfl, rfl⟩
                            refine hK.out _ _ KA31 (fun _ => ?_)
                            clear hK K
                            refine wpAnyH_ready (rs := [15]) (by kernel_rfl) (by simp) ?_
                            refine AllReadyH.cons rfl (fun K hK => ?_) AllReadyH.nil
                            go_simp
                            refine (gH.out _).mono ?_
                            rintro e w' ⟨rfl, rfl⟩
                            refine hK.out _ _ KA31 (fun _ => ?_)
                            clear hK K
                            refine wpAnyH_ready (rs := [20]) (by kernel_rfl) (by simp) ?_
                            refine AllReadyH.cons rfl (fun K hK => ?_) AllReadyH.nil
                            go_simp
                            refine (gM.out _).mono ?_
                            rintro e w' ⟨rfl, rfl⟩
                            refine hK.out _ _ KA31 (fun _ => ?_)
                            clear hK K
                            refine wpAnyH_take (i := 21) (v := .agg #[.int .i64 vY, .int .i64 (vmo + 1), .int .i64 va, .int .i64 vh, .int .i64 vmi, .int .i64 0]) rfl (by kernel_rfl) (by kernel_rfl) (by kernel_rfl) (fun _ _ _ h => h) (Or.inl ⟨by rfl, fun W _ => build6 rfl rfl rfl rfl rfl rfl rfl W⟩) (by assumption) ?_
                            change wpAnyH _ _ _ _ _ _ _ (Act.put _ (some 119) _) _
                            simp only [Act.put, List.setIfInBounds_toArray, List.set_cons_zero, List.set_cons_succ]
                            refine wpAnyH_take (i := 22) (v := .agg #[.int .i64 vY, .int .i64 (vmo + 1), .int .i64 va, .int .i64 vh, .int .i64 vmi, .int .i64 0, .int .i64 0]) rfl (by kernel_rfl) (by kernel_rfl) (by kernel_rfl) (fun _ _ _ h => h) (Or.inl ⟨by rfl, fun W _ => build7 rfl rfl W⟩) (by assumption) ?_
                            change wpAnyH _ _ _ _ _ _ _ (Act.put _ (some 120) _) _
                            simp only [Act.put, List.setIfInBounds_toArray, List.set_cons_zero, List.set_cons_succ]
                            refine wpAnyH_ready (rs := [24]) (by kernel_rfl) (by simp) ?_
                            refine AllReadyH.cons rfl (fun K hK => ?_) AllReadyH.nil
                            have PS := PT.stored PA31 vY (vmo + 1) va vh vmi 0 0
                            have KS := Kept.sets KA31 wM16.heap.size hga31 [.int .i64 vY, .int .i64 (vmo + 1), .int .i64 va, .int .i64 vh, .int .i64 vmi, .int .i64 0, .int .i64 0]
                            refine wp_store_mid _ _ _ rfl wM16.heap.size 0 #[.int .i64 vY, .int .i64 (vmo + 1), .int .i64 va, .int .i64 vh, .int .i64 vmi, .int .i64 0, .int .i64 0] rfl rfl (PT.there PA31) (by kernel_rfl) (one7 _ _ _ _ _ _ _) ?_
                            refine hK.out _ _ KS (fun _ => ?_)
                            clear hK K
                            refine wpAnyH_done (by kernel_rfl) ?_ _
                            go_wp2_with fail
                            go_meet
                            exact ⟨_, rfl, hga31, PS, KS⟩
                    · as_aux_lemma =>
                        go_simp
                        refine hK.out _ _ (Kept.alloc KM16 _) (fun _ => ?_)
                        clear hK K
                        have PA36 : PT wM16.heap.size 0 0 0 0 0 0 0 (wM16.alloc (.cells #[.int .i64 0, .int .i64 0, .int .i64 0, .int .i64 0, .int .i64 0, .int .i64 0, .int .i64 0] 31)) := Blk.new _ wM16
                        have KA36 := Kept.alloc KM16 (.cells #[.int .i64 0, .int .i64 0, .int .i64 0, .int .i64 0, .int .i64 0, .int .i64 0, .int .i64 0] 31)
                        have hga36 : w3.heap.size ≤ wM16.heap.size := Below.size KM16
                        have hrt36 := RT.below hrt16 (by decide) (Below.alloc (Below.refl _ wM16) (Nat.le_refl _) (.cells #[.int .i64 0, .int .i64 0, .int .i64 0, .int .i64 0, .int .i64 0, .int .i64 0, .int .i64 0] 31))
                        generalize hwA36 : wM16.alloc (.cells #[.int .i64 0, .int .i64 0, .int .i64 0, .int .i64 0, .int .i64 0, .int .i64 0, .int .i64 0] 31) = wA36 at *
                        clear hwA36
                        refine wpAnyH_ready (rs := [5]) (by kernel_rfl) (by simp) ?_
                        refine AllReadyH.cons rfl (fun K hK => ?_) AllReadyH.nil
                        go_simp
                        refine (gP.out _ _ hrt36).mono ?_
                        rintro e w' ⟨rfl, rfl⟩
                        refine hK.out _ _ KA36 (fun _ => ?_)
                        clear hK K
                        refine wpAnyH_take (i := 6) (v := ?v38) rfl (by kernel_rfl) (by kernel_rfl) (by kernel_rfl) (fun _ _ _ h => h) (Or.inl ⟨by rfl, ?y38⟩) (by assumption) ?r38
                        case y38 => (intro W hSw; go_simp <;> with_reducible rfl)
                        change wpAnyH _ _ _ _ _ _ _ (Act.put _ (some 104) _) _
                        simp only [Act.put, List.setIfInBounds_toArray, List.set_cons_zero, List.set_cons_succ]
                        refine wpAnyH_ready (rs := [10]) (by kernel_rfl) (by simp) ?_
                        refine AllReadyH.cons rfl (fun K hK => ?_) AllReadyH.nil
                        go_simp
                        refine (gA.out _).mono ?_
                        rintro e w' ⟨rfl, rfl⟩
                        refine hK.out _ _ KA36 (fun _ => ?_)
                        clear hK K
                        refine wpAnyH_ready (rs := [15]) (by kernel_rfl) (by simp) ?_
                        refine AllReadyH.cons rfl (fun K hK => ?_) AllReadyH.nil
                        go_simp
                        refine (gH.out _).mono ?_
                        rintro e w' ⟨rfl, rfl⟩
                        refine hK.out _ _ KA36 (fun _ => ?_)
                        clear hK K
                        refine wpAnyH_ready (rs := [20]) (by kernel_rfl) (by simp) ?_
                        refine AllReadyH.cons rfl (fun K hK => ?_) AllReadyH.nil
                        go_simp
                        refine (gM.out _).mono ?_
                        rintro e w' ⟨rfl, rfl⟩
                        refine hK.out _ _ KA36 (fun _ => ?_)
                        clear hK K
                        refine wpAnyH_take (i := 21) (v := .agg #[.int .i64 vY, .int .i64 (vmo + 1), .int .i64 va, .int .i64 vh, .int .i64 vmi, .int .i64 0]) rfl (by kernel_rfl) (by kernel_rfl) (by kernel_rfl) (fun _ _ _ h => h) (Or.inl ⟨by rfl, fun W _ => build6 rfl rfl rfl rfl rfl rfl rfl W⟩) (by assumption) ?_
                        change wpAnyH _ _ _ _ _ _ _ (Act.put _ (some 119) _) _
                        simp only [Act.put, List.setIfInBounds_toArray, List.set_cons_zero, List.set_cons_succ]
                        refine wpAnyH_take (i := 22) (v := .agg #[.int .i64 vY, .int .i64 (vmo + 1), .int .i64 va, .int .i64 vh, .int .i64 vmi, .int .i64 0, .int .i64 0]) rfl (by kernel_rfl) (by kernel_rfl) (by kernel_rfl) (fun _ _ _ h => h) (Or.inl ⟨by rfl, fun W _ => build7 rfl rfl W⟩) (by assumption) ?_
                        change wpAnyH _ _ _ _ _ _ _ (Act.put _ (some 120) _) _
                        simp only [Act.put, List.setIfInBounds_toArray, List.set_cons_zero, List.set_cons_succ]
                        refine wpAnyH_ready (rs := [24]) (by kernel_rfl) (by simp) ?_
                        refine AllReadyH.cons rfl (fun K hK => ?_) AllReadyH.nil
                        have PS := PT.stored PA36 vY (vmo + 1) va vh vmi 0 0
                        have KS := Kept.sets KA36 wM16.heap.size hga36 [.int .i64 vY, .int .i64 (vmo + 1), .int .i64 va, .int .i64 vh, .int .i64 vmi, .int .i64 0, .int .i64 0]
                        refine wp_store_mid _ _ _ rfl wM16.heap.size 0 #[.int .i64 vY, .int .i64 (vmo + 1), .int .i64 va, .int .i64 vh, .int .i64 vmi, .int .i64 0, .int .i64 0] rfl rfl (PT.there PA36) (by kernel_rfl) (one7 _ _ _ _ _ _ _) ?_
                        refine hK.out _ _ KS (fun _ => ?_)
                        clear hK K
                        refine wpAnyH_done (by kernel_rfl) ?_ _
                        go_wp2_with fail
                        go_meet
                        exact ⟨_, rfl, hga36, PS, KS⟩
                · as_aux_lemma =>
                    go_simp
                    refine hK.out _ _ (Kept.alloc K0 _) (fun _ => ?_)
                    clear hK K
                    have PA43 : PT wd.heap.size 0 0 0 0 0 0 0 (wd.alloc (.cells #[.int .i64 0, .int .i64 0, .int .i64 0, .int .i64 0, .int .i64 0, .int .i64 0, .int .i64 0] 31)) := Blk.new _ wd
                    have KA43 := Kept.alloc K0 (.cells #[.int .i64 0, .int .i64 0, .int .i64 0, .int .i64 0, .int .i64 0, .int .i64 0, .int .i64 0] 31)
                    have hga43 : w3.heap.size ≤ wd.heap.size := Below.size K0
                    generalize hwA43 : wd.alloc (.cells #[.int .i64 0, .int .i64 0, .int .i64 0, .int .i64 0, .int .i64 0, .int .i64 0, .int .i64 0] 31) = wA43 at *
                    clear hwA43
                    refine wpAnyH_ready (rs := [4]) (by kernel_rfl) (by simp) ?_
                    refine AllReadyH.cons rfl (fun K hK => ?_) AllReadyH.nil
                    go_simp
                    refine (Months_any _).mono ?_
                    rintro e wM44 ⟨rfl, hrt44, bl44⟩
                    have KM44 := Kept.go KA43 bl44
                    refine hK.out _ _ KM44 (fun _ => ?_)
                    clear hK K
                    have PM44 := PT.kept PA43 bl44
                    clear bl44
                    refine wpAnyH_ready (rs := [5]) (by kernel_rfl) (by simp) ?_
                    refine AllReadyH.cons rfl (fun K hK => ?_) AllReadyH.nil
                    go_simp
                    refine (gP.out _ _ hrt44).mono ?_
                    rintro e w' ⟨rfl, rfl⟩
                    refine hK.out _ _ KM44 (fun _ => ?_)
                    clear hK K
                    refine wpAnyH_take (i := 6) (v := ?v46) rfl (by kernel_rfl) (by kernel_rfl) (by kernel_rfl) (fun _ _ _ h => h) (Or.inl ⟨by rfl, ?y46⟩) (by assumption) ?r46
                    case y46 => (intro W hSw; go_simp <;> with_reducible rfl)
                    change wpAnyH _ _ _ _ _ _ _ (Act.put _ (some 104) _) _
                    simp only [Act.put, List.setIfInBounds_toArray, List.set_cons_zero, List.set_cons_succ]
                    refine wpAnyH_ready (rs := [10]) (by kernel_rfl) (by simp) ?_
                    refine AllReadyH.cons rfl (fun K hK => ?_) AllReadyH.nil
                    go_simp
                    refine (gA.out _).mono ?_
                    rintro e w' ⟨rfl, rfl⟩
                    refine hK.out _ _ KM44 (fun _ => ?_)
                    clear hK K
                    refine wpAnyH_ready (rs := [15]) (by kernel_rfl) (by simp) ?_
                    refine AllReadyH.cons rfl (fun K hK => ?_) AllReadyH.nil
                    go_simp
                    refine (gH.out _).mono ?_
                    rintro e w' ⟨rfl, rfl⟩
                    refine hK.out _ _ KM44 (fun _ => ?_)
                    clear hK K
                    refine wpAnyH_ready (rs := [20]) (by kernel_rfl) (by simp) ?_
                    refine AllReadyH.cons rfl (fun K hK => ?_) AllReadyH.nil
                    go_simp
                    refine (gM.out _).mono ?_
                    rintro e w' ⟨rfl, rfl⟩
                    refine hK.out _ _ KM44 (fun _ => ?_)
                    clear hK K
                    refine wpAnyH_take (i := 21) (v := .agg #[.int .i64 vY, .int .i64 (vmo + 1), .int .i64 va, .int .i64 vh, .int .i64 vmi, .int .i64 0]) rfl (by kernel_rfl) (by kernel_rfl) (by kernel_rfl) (fun _ _ _ h => h) (Or.inl ⟨by rfl, fun W _ => build6 rfl rfl rfl rfl rfl rfl rfl W⟩) (by assumption) ?_
                    change wpAnyH _ _ _ _ _ _ _ (Act.put _ (some 119) _) _
                    simp only [Act.put, List.setIfInBounds_toArray, List.set_cons_zero, List.set_cons_succ]
                    refine wpAnyH_take (i := 22) (v := .agg #[.int .i64 vY, .int .i64 (vmo + 1), .int .i64 va, .int .i64 vh, .int .i64 vmi, .int .i64 0, .int .i64 0]) rfl (by kernel_rfl) (by kernel_rfl) (by kernel_rfl) (fun _ _ _ h => h) (Or.inl ⟨by rfl, fun W _ => build7 rfl rfl W⟩) (by assumption) ?_
                    change wpAnyH _ _ _ _ _ _ _ (Act.put _ (some 120) _) _
                    simp only [Act.put, List.setIfInBounds_toArray, List.set_cons_zero, List.set_cons_succ]
                    refine wpAnyH_ready (rs := [24]) (by kernel_rfl) (by simp) ?_
                    refine AllReadyH.cons rfl (fun K hK => ?_) AllReadyH.nil
                    have PS := PT.stored PM44 vY (vmo + 1) va vh vmi 0 0
                    have KS := Kept.sets KM44 wd.heap.size hga43 [.int .i64 vY, .int .i64 (vmo + 1), .int .i64 va, .int .i64 vh, .int .i64 vmi, .int .i64 0, .int .i64 0]
                    refine wp_store_mid _ _ _ rfl wd.heap.size 0 #[.int .i64 vY, .int .i64 (vmo + 1), .int .i64 va, .int .i64 vh, .int .i64 vmi, .int .i64 0, .int .i64 0] rfl rfl (PT.there PM44) (by kernel_rfl) (one7 _ _ _ _ _ _ _) ?_
                    refine hK.out _ _ KS (fun _ => ?_)
                    clear hK K
                    refine wpAnyH_done (by kernel_rfl) ?_ _
                    go_wp2_with fail
                    go_meet
                    exact ⟨_, rfl, hga43, PS, KS⟩
            case rest =>
              as_aux_lemma =>
                obtain ⟨g, rfl, hg, PB, K4⟩ := hcut
                obtain ⟨w4, hw4⟩ : ∃ W, W = wc := ⟨_, rfl⟩
                subst hw4
                clear ca cm cd cz gA gH gM gP QS1 QS2
                have cd := (HC.out _ (Kept.go hk3 K4)).2.2.2.1
                go_upto_if 125 with (fail)
                go_cut [125] (fun _ wx => PT g vY (vmo + 1) va vh vmi vS 0 wx ∧ Kept w3 wx)
                case first =>
                  as_aux_lemma =>
                    rcases hdl with h5 | h8
                    · have t8 : ((XD.size : Int) == 8) = false := by rw [beq_eq_false_iff_ne, TL.out]; omega
                      have HV0 := Lib.hid (show vS = 0 by rw [← HVS.out, if_neg (by omega)])
                      go_wp2_with fail
                      go_meet
                      exact ⟨by rw [HV0.out]; exact PB, K4⟩
                    · have t8 : ((XD.size : Int) == 8) = true := by rw [beq_iff_eq, TL.out]; omega
                      have HV0 := Lib.hid (show vS = vs6 by rw [← HVS.out, if_pos h8])
                      have s3 := QS3.out h8
                      have m5 := Blk.cell PB 5
                      simp at m5
                      have f5 := Blk.free PB 5
                      have PB5 := Blk.set PB 5 (.int .i64 vs6)
                      have K5 : Kept w3 (w4.setCell ⟨g, 5, none⟩ (.int .i64 vs6)) := below_set K4 hg 5 (.int .i64 vs6)
                      go_wp2_with fail
                      refine (gS.out _).mono ?_
                      rintro e w' ⟨rfl, rfl⟩
                      go_wp2_with fail
                      go_meet
                      exact ⟨by rw [HV0.out]; simpa [PT] using PB5, K5⟩
                case rest =>
                  obtain ⟨PB5, K5⟩ := hcut
                  obtain ⟨w5, hw5⟩ : ∃ W, W = wc := ⟨_, rfl⟩
                  subst hw5
                  clear PB K4 cd HVS QS3 gS hdl TL
                  have cz := (HC.out _ (Kept.go hk3 K5)).2.2.2.2
                  generalize hXZ : (⟨z.toArray⟩ : ByteArray) = XZ at *
                  have HXZ := Lib.hid hXZ
                  clear hXZ
                  go_wp2_with (guard_target =~ Go.wpList _ _ _ ({ dst := _, op := Go.Op.buildSlice _ _ _, type := _, pos := _, after := _, guard := none } :: _) _ _; refine bs11k ?_)
                  intro w6 hrt b6
                  clear cz
                  have PB6 := PT.kept PB5 b6
                  have K6 := Kept.go K5 b6
                  clear b6
                  have hpl := place_any z w5.heap.size 11 zonesB _ hrt (by decide) 11 rfl
                  rw [zones_lists, HXZ.out] at hpl
                  have hv0 := place_ge z zonesN
                  have hv1 := place_lt z zonesN
                  change placeP z zonesN < 11 at hv1
                  generalize hv : placeP z zonesN = v at *
                  have HVZ := Lib.hid hv
                  clear hv hrt
                  go_wp2_with fail
                  refine hpl.mono ?_
                  clear hpl PB5 K5
                  rintro e w' ⟨rfl, rfl⟩
                  go_upto_if 139 with (fail)
                  go_cut [139] (fun _ wx => ∃ off : Int, PT g vY (vmo + 1) va vh vmi vS off wx ∧ Kept w3 wx ∧ Hid (zoneM z = some off) ∧ -1000000 ≤ off ∧ off ≤ 1000000)
                  case first =>
                    as_aux_lemma =>
                      by_cases kv : 0 ≤ v
                      · have tv : decide (0 ≤ v) = true := by simpa using kv
                        obtain ⟨n, rfl⟩ : ∃ n : Nat, v = n := ⟨v.toNat, by omega⟩
                        have hn : n < 11 := by omega
                        have hni : (n : Int) < 11 := by omega
                        have HZM := Lib.hid (show zoneM z = some (-3600 * zoneT.getD n 0) by unfold zoneM; rw [HVZ.out, if_pos kv]; rfl)
                        have hbd := zoneT_bd n hn
                        clear kv hv0 hv1 HVZ
                        go_wp2_with (guard_target =~ Go.wpList _ _ _ ({ dst := _, op := Go.Op.buildSlice _ _ _, type := _, pos := _, after := _, guard := none } :: _) _ _; refine bi11k n hn ?_)
                        intro w7 hcl b7
                        have PB7 := PT.kept PB6 b7
                        have K7 := Kept.go K6 b7
                        clear b7 PB6 K6
                        generalize zoneT.getD n 0 = T at *
                        obtain ⟨T0, T1⟩ := hbd
                        have hwr : IntKind.i64.wrap (-3600 * T) = -3600 * T := IntWalk.i64_in _ (by omega)
                        have m6 := Blk.cell PB7 6
                        simp at m6
                        have f6 := Blk.free PB7 6
                        have PB8 : PT g vY (vmo + 1) va vh vmi vS (-3600 * T) (w7.setCell ⟨g, 6, none⟩ (.int .i64 (-3600 * T))) := by simpa [PT] using Blk.set PB7 6 (.int .i64 (-3600 * T))
                        have K8 : Kept w3 (w7.setCell ⟨g, 6, none⟩ (.int .i64 (-3600 * T))) := below_set K7 hg 6 (.int .i64 (-3600 * T))
                        go_wp2_with fail
                        go_meet
                        exact ⟨_, PB8, K8, HZM, by omega, by omega⟩
                      · have tv : decide (0 ≤ v) = false := by simpa using kv
                        have HZM := Lib.hid (show zoneM z = offP z [] by unfold zoneM; rw [HVZ.out, if_neg kv])
                        have hoff := fun W => roffset_any z [] (.inr rfl) W (by omega)
                        have cz := (HC.out _ (Kept.go hk3 K6)).2.2.2.2
                        have kvi : v < 0 := by omega
                        rw [HXZ.out] at hoff
                        go_wp2_with fail
                        refine (hoff _).mono ?_
                        clear hoff cz
                        rintro e w7 ⟨off, ok, rfl, ho1, ho2, b7, o0, o1⟩
                        have PB7 := PT.kept PB6 b7
                        have K7 := Kept.go K6 b7
                        clear b7
                        cases ok with
                        | false =>
                          have HRN := Lib.hid (show none = res by rw [← HB.out, HZM.out, ho2 rfl]; rfl)
                          go_wp2
                          go_ret2
                          exact ⟨by rw [← HRN.out]; rfl, B3.trans (K7.mono B3.size)⟩
                        | true =>
                          have HV := Lib.hid (show zoneM z = some off by rw [HZM.out, ho1 rfl])
                          clear ho1 ho2
                          have m6 := Blk.cell PB7 6
                          simp at m6
                          have f6 := Blk.free PB7 6
                          have PB8 : PT g vY (vmo + 1) va vh vmi vS off (w7.setCell ⟨g, 6, none⟩ (.int .i64 off)) := by simpa [PT] using Blk.set PB7 6 (.int .i64 off)
                          have K8 : Kept w3 (w7.setCell ⟨g, 6, none⟩ (.int .i64 off)) := below_set K7 hg 6 (.int .i64 off)
                          go_wp2_with fail
                          go_meet
                          exact ⟨off, PB8, K8, HV, o0, o1⟩
                  case rest =>
                    obtain ⟨off, PB9, K9, HZ, o0, o1⟩ := hcut
                    obtain ⟨w9, hw9⟩ : ∃ W, W = wc := ⟨_, rfl⟩
                    subst hw9
                    clear PB6 K6 HVZ hv0 hv1
                    as_aux_lemma =>
                      have HR := Lib.hid (show timeP vY (vmo + 1) va vh vmi vS off = res by rw [← HB.out, HZ.out]; rfl)
                      have q0 := Blk.cell PB9 0
                      have q1 := Blk.cell PB9 1
                      have q2 := Blk.cell PB9 2
                      have q3 := Blk.cell PB9 3
                      have q4 := Blk.cell PB9 4
                      have q5 := Blk.cell PB9 5
                      have q6 := Blk.cell PB9 6
                      simp at q0 q1 q2 q3 q4 q5 q6
                      have ht := rTime_any vY (vmo + 1) va vh vmi vS off w9 (by unfold Bds; omega)
                      unfold partsV TimOut at ht
                      rw [HR.out] at ht
                      go_wp2_with fail
                      refine ht.mono ?_
                      clear ht
                      rintro e wt ⟨rfl, bt⟩
                      have B9 := B3.trans ((Kept.go K9 bt).mono B3.size)
                      cases res with
                      | none =>
                        unfold TimV
                        go_wp2
                        go_ret2
                        exact ⟨rfl, B9⟩
                      | some v =>
                        unfold TimV
                        go_wp2
                        go_ret2
                        exact ⟨rfl, B9⟩
    · have HRN := Lib.hid (show none = res by
        rw [← HBD.out]
        unfold mailBody
        split
        · exact absurd rfl h5
        · rfl)
      obtain ⟨m, hm⟩ : ∃ m, ws.length = m := ⟨_, rfl⟩
      rw [hm] at h5 hcap2
      rw [hm]
      clear hm
      have t5 : ((m : Int) == 5) = false := by simp; omega
      have t5' : ((m : Int) != 5) = true := by simp; omega
      go_wp2
      go_ret2
      exact ⟨by rw [← HRN.out]; rfl, B2⟩
end Go.Proofs.YtocmppafmaehcaaDoor
