/-
  Of the proofs of layer 8 (elements of XML): the parts XAv XCa XCb XAw XAy XAz. No conditions.
-/
import Derived.Test.YtklcjimmbkpbdaaGreatDoorZ19
import Derived.Test.YtklcjimmbkpbdaaGreatDoorZ18
import Derived.Test.YtklcjimmbkpbdaaGreatDoorZ17
namespace Go.Proofs.YtklcjimmbkpbdaaGreatDoor
open Go.RowKit
open Go.Lib
theorem XRl.cells {w : World} {T : Nat → Prop} {l : List XV} {b off : Nat} (h : XRl w T l b off) (j : Nat) (hj : j < l.length) : ∃ aA ac kA kc, w.cell? ⟨b, off + j * 5, none⟩ = some (sV l[j].space) ∧ w.cell? ⟨b, off + j * 5 + 1, none⟩ = some (sV l[j].name) ∧ w.cell? ⟨b, off + j * 5 + 2, none⟩ = some (.slice aA l[j].attrs.length ac) ∧ w.cell? ⟨b, off + j * 5 + 3, none⟩ = some (.slice kA l[j].kids.length kc) ∧ w.cell? ⟨b, off + j * 5 + 4, none⟩ = some (sV l[j].text) ∧ XR w T l[j] (.agg #[sV l[j].space, sV l[j].name, .slice aA l[j].attrs.length ac, .slice kA l[j].kids.length kc, sV l[j].text]) := by
 obtain ⟨x0, x1, x2, x3, x4, c0, c1, c2, c3, c4, hx⟩ := XRl.at h j hj
 obtain ⟨aA, ac, kA, kc, e⟩ := xr_one hx
 have e' : #[x0, x1, x2, x3, x4] = #[sV l[j].space, sV l[j].name, .slice aA l[j].attrs.length ac, .slice kA l[j].kids.length kc, sV l[j].text] := by injection e
 have e2 := congrArg Array.toList e'
 simp only [List.cons.injEq, and_true] at e2
 obtain ⟨rfl, rfl, rfl, rfl, rfl⟩ := e2
 exact ⟨aA, ac, kA, kc, c0, c1, c2, c3, c4, hx⟩
theorem wX_text (v : XV) : v.space.length ≤ wX v ∧ v.name.length ≤ wX v ∧ v.text.length ≤ wX v ∧ v.attrs.length ≤ wX v ∧ v.kids.length ≤ wX v ∧ wXs v.kids ≤ wX v := by
 have h1 := wX_eq v
 have h2 := wA_len v.attrs
 have h3 := wXs_len v.kids
 exact ⟨by omega, by omega, by omega, by omega, by omega, by omega⟩
theorem wX_attrs {v : XV} (h : wX v ≤ 100000) : SmallA3 v.attrs := fun a ha => by
 have h1 := wA_mem ha
 have h2 := wX_eq v
 exact ⟨by omega, by omega, by omega⟩
def RightC (n : Nat) : Prop := ∀ (v : XV) (x : Value) (T : Nat → Prop) (w : World), XR w T v x → wX v ≤ 100000 → ML w → Calls Tryz.prog 36 #[x, .int .i64 n] w (BoO (rightX n v) w)
set_option maxRecDepth 100000 in
set_option maxHeartbeats 8000000 in
theorem rightKids_any {n : Nat} (hC : RightC n) {T : Nat → Prop} {A : Option Addr} {c : Nat} {ks : List XV} {w : World} (hR : RN8 w T A ks) (hw : wXs ks ≤ 100000) (hm : ML w) :
    Calls Tryz.prog 64 #[.slice A ks.length c, .int .i64 n] w (BoO (rightKidsB (rightX n) false ks) w) := by
 obtain ⟨m, hmm⟩ : ∃ m, ks.length = m := ⟨_, rfl⟩
 obtain ⟨o, ho⟩ : ∃ o, rightKidsB (rightX n) false ks = o := ⟨_, rfl⟩
 have HO := hid ho
 have HN := hid hmm
 have HR := hid hR
 have HM := hid hm
 have HW := hid hw
 have HC := hid hC
 have hml : m ≤ 100000 := by rw [← hmm]; have := wXs_len ks; omega
 rw [hmm, ho]
 clear hR hw hm hC hmm ho
 go_enter Tryz.func64, Tryz.ntmps64
 go_wp2
 go_loopw [4, 10] (fun a4 i wr => a4 = .bool false ∧ ∃ k : Nat, k ≤ m ∧ i = .int .i64 k ∧ Hid (Below w.heap.size w wr) ∧ Hid (o = rightKidsB (rightX n) (prevB ks k) (ks.drop k))) (fun _ i _ => m - (RowKit.intOf i).toNat)
 case atStart => exact ⟨rfl, 0, Nat.zero_le _, rfl, hid (Below.refl _ _), hid HO.out.symm⟩
 case round =>
  obtain ⟨rfl, k, hk, rfl, HB, HQ⟩ := hrel
  by_cases hlt : k < m
  ·have hkl : k < ks.length := by rw [HN.out]; exact hlt
   obtain ⟨bb, off, hAe, hT, hbl, hl⟩ := HR.out (by omega)
   obtain ⟨aA, ac, kA, kc, c0, c1, c2, c3, c4, hx⟩ := XRl.cells hl k hkl
   have HST := hid (rightKids_step (f := rightX n) hkl)
   have hwk : wX ks[k] ≤ 100000 := Nat.le_trans (wXs_mem (List.getElem_mem hkl)) HW.out
   have HP : Hid (∀ j, k = j + 1 → ∃ p : XV, ∃ pA pc qA qc, prevB ks k = (p.name == []) ∧ w.cell? ⟨bb, off + j * 5, none⟩ = some (sV p.space) ∧ w.cell? ⟨bb, off + j * 5 + 1, none⟩ = some (sV p.name) ∧ w.cell? ⟨bb, off + j * 5 + 2, none⟩ = some (.slice pA p.attrs.length pc) ∧ w.cell? ⟨bb, off + j * 5 + 3, none⟩ = some (.slice qA p.kids.length qc) ∧ w.cell? ⟨bb, off + j * 5 + 4, none⟩ = some (sV p.text) ∧ XR w T p (.agg #[sV p.space, sV p.name, .slice pA p.attrs.length pc, .slice qA p.kids.length qc, sV p.text])) := hid (fun j hj => by
    have hjl : j < ks.length := by omega
    obtain ⟨pA, pc, qA, qc, d⟩ := XRl.cells hl j hjl
    refine ⟨ks[j], pA, pc, qA, qc, ?_, d⟩
    rw [hj]
    show (match ks[j]? with | some k => k.name == [] | none => false) = _
    rw [List.getElem?_eq_getElem hjl])
   obtain ⟨kid, hkd⟩ : ∃ x, ks[k] = x := ⟨_, rfl⟩
   rw [hkd] at c0 c1 c2 c3 c4 hx HST hwk
   have hb := HB.out
   have y0 := (hb.cell (p := ⟨bb, off + k * 5, none⟩) hbl).trans c0
   have y1 := (hb.cell (p := ⟨bb, off + k * 5 + 1, none⟩) hbl).trans c1
   have y2 := (hb.cell (p := ⟨bb, off + k * 5 + 2, none⟩) hbl).trans c2
   have y3 := (hb.cell (p := ⟨bb, off + k * 5 + 3, none⟩) hbl).trans c3
   have y4 := (hb.cell (p := ⟨bb, off + k * 5 + 4, none⟩) hbl).trans c4
   subst hAe
   have hB1 := below_alloc8 wr (.cells #[sV kid.space, sV kid.name, .slice aA kid.attrs.length ac, .slice kA kid.kids.length kc, sV kid.text] TNo)
   have HB1 : Hid (Below w.heap.size w (wr.alloc (.cells #[sV kid.space, sV kid.name, .slice aA kid.attrs.length ac, .slice kA kid.kids.length kc, sV kid.text] TNo))) := hid (hb.trans (hB1.mono hb.size))
   have HX := hid (Blk.new (.cells #[sV kid.space, sV kid.name, .slice aA kid.attrs.length ac, .slice kA kid.kids.length kc, sV kid.text] TNo) wr)
   have HXR := hid hx
   have HT := hid (fun W => isText_any (w := W) hx)
   unfold BoO at HT
   have HBL := hid hbl
   clear c0 c1 c2 c3 c4 hb hB1 hkd hx hl
   obtain ⟨nA, hnA⟩ : ∃ n, kid.attrs.length = n := ⟨_, rfl⟩
   obtain ⟨nK, hnK⟩ : ∃ n, kid.kids.length = n := ⟨_, rfl⟩
   rw [hnA] at y2 HB1 HX HXR HT
   rw [hnK] at y3 HB1 HX HXR HT
   clear hnA hnK
   by_cases h0 : kid.name = []
   ·have HTT : Hid (o = ((rightTextB kid && !prevB ks k) && rightKidsB (rightX n) (prevB ks (k + 1)) (ks.drop (k + 1)))) := hid (by rw [HQ.out, HST.out, if_pos h0])
    have hnb : (kid.name == []) = true := by rw [h0]; rfl
    rw [hnb] at HT
    clear h0 hnb HQ HST
    have HRT := hid (fun W (hW : XR W T kid (.agg #[sV kid.space, sV kid.name, .slice aA nA ac, .slice kA nK kc, sV kid.text])) (hM : ML W) => rightText_any hW (by have := (wX_text kid).2.2.1; omega) hM)
    unfold BoO at HRT
    obtain ⟨rt, hrt⟩ : ∃ b, rightTextB kid = b := ⟨_, rfl⟩
    rw [hrt] at HRT HTT
    clear hrt
    cases k with
    | zero =>
     have HT2 : Hid (o = (rt && rightKidsB (rightX n) (prevB ks 1) (ks.drop 1))) := hid (by rw [HTT.out]; cases rt <;> rfl)
     clear HTT HP
     simp only [Nat.zero_mul, Nat.add_zero] at y0 y1 y2 y3 y4
     cases rt with
     | false =>
      have HF : Hid (o = false) := hid (by rw [HT2.out]; rfl)
      go_wp2_with (first | (go_at_call 65; (with_reducible refine (HT.out _).mono ?_); rintro e w1 ⟨rfl, b3⟩; have x3 := (Off.of_below b3).blk HX.out (fun h => h); have q0 := x3.cell 0; have q1 := x3.cell 1; have q2 := x3.cell 2; have q3 := x3.cell 3; have q4 := x3.cell 4; have HX3 := hid x3; have HB3 := hid (HB1.out.trans (b3.mono HB1.out.size)); clear x3 b3) | (go_at_call 92; (with_reducible refine (HRT.out _ (XR.off (Off.of_below HB3.out) (fun _ _ h => h) _ _ HXR.out) (HM.out.below HB3.out)).mono ?_); rintro e w5 ⟨rfl, b5⟩; have HB5 := hid (HB3.out.trans (b5.mono HB3.out.size)); clear b5))
      go_ret
      exact BoO.of HF.out HB5.out
     | true =>
      have HF : Hid (o = rightKidsB (rightX n) (prevB ks 1) (ks.drop 1)) := hid (by rw [HT2.out]; rfl)
      go_wp2_with (first | (go_at_call 65; (with_reducible refine (HT.out _).mono ?_); rintro e w1 ⟨rfl, b3⟩; have x3 := (Off.of_below b3).blk HX.out (fun h => h); have q0 := x3.cell 0; have q1 := x3.cell 1; have q2 := x3.cell 2; have q3 := x3.cell 3; have q4 := x3.cell 4; have HX3 := hid x3; have HB3 := hid (HB1.out.trans (b3.mono HB1.out.size)); clear x3 b3) | (go_at_call 92; (with_reducible refine (HRT.out _ (XR.off (Off.of_below HB3.out) (fun _ _ h => h) _ _ HXR.out) (HM.out.below HB3.out)).mono ?_); rintro e w5 ⟨rfl, b5⟩; have HB5 := hid (HB3.out.trans (b5.mono HB3.out.size)); clear b5))
      go_roundw
      case rel => exact ⟨rfl, 1, by omega, by go_num, HB5, HF⟩
      case measure => simp [RowKit.intOf]; omega
    | succ j =>
     obtain ⟨p, pA, pc, qA, qc, hpb, d0, d1, d2, d3, d4, hp⟩ := HP.out j rfl
     rw [hpb] at HTT
     have HTP := hid (fun W => isText_any (w := W) hp)
     unfold BoO at HTP
     obtain ⟨nA', hnA⟩ : ∃ n, p.attrs.length = n := ⟨_, rfl⟩
     obtain ⟨nK', hnK⟩ : ∃ n, p.kids.length = n := ⟨_, rfl⟩
     rw [hnA] at d2 HTP
     rw [hnK] at d3 HTP
     obtain ⟨pb, hpb2⟩ : ∃ b, (p.name == []) = b := ⟨_, rfl⟩
     rw [hpb2] at HTP HTT
     have HD := hid (And.intro d0 (And.intro d1 (And.intro d2 (And.intro d3 d4))))
     have hj0 : ((j + 1 : Nat) : Int) - 1 = (j : Int) := by omega
     have hj1 : (0 : Int) < ((j + 1 : Nat) : Int) := by omega
     have hj2 : (j : Int) + 1 - 1 = (j : Int) := by omega
     have hj3 : (0 : Int) < (j : Int) + 1 := by omega
     have hj4 : (0 : Int) ≤ (j : Int) ∧ (j : Int) < (m : Int) := by omega
     clear HP hnA hnK hpb hpb2 d0 d1 d2 d3 d4 hp
     cases pb with
     | true =>
      have HF : Hid (o = false) := hid (by rw [HTT.out]; cases rt <;> rfl)
      go_wp2_with (first | (go_at_call 65; (with_reducible refine (HT.out _).mono ?_); rintro e w1 ⟨rfl, b3⟩; have x3 := (Off.of_below b3).blk HX.out (fun h => h); have q0 := x3.cell 0; have q1 := x3.cell 1; have q2 := x3.cell 2; have q3 := x3.cell 3; have q4 := x3.cell 4; have HX3 := hid x3; have HB3 := hid (HB1.out.trans (b3.mono HB1.out.size)); have d0 := (HB3.out.cell (p := ⟨bb, off + j * 5, none⟩) HBL.out).trans HD.out.1; have d1 := (HB3.out.cell (p := ⟨bb, off + j * 5 + 1, none⟩) HBL.out).trans HD.out.2.1; have d2 := (HB3.out.cell (p := ⟨bb, off + j * 5 + 2, none⟩) HBL.out).trans HD.out.2.2.1; have d3 := (HB3.out.cell (p := ⟨bb, off + j * 5 + 3, none⟩) HBL.out).trans HD.out.2.2.2.1; have d4 := (HB3.out.cell (p := ⟨bb, off + j * 5 + 4, none⟩) HBL.out).trans HD.out.2.2.2.2; clear HT; clear x3 b3) | (go_at_call 65; (with_reducible refine (HTP.out _).mono ?_); rintro e w2 ⟨rfl, b4⟩; have x4 := (Off.of_below b4).blk HX3.out (fun h => h); have q0 := x4.cell 0; have q1 := x4.cell 1; have q2 := x4.cell 2; have q3 := x4.cell 3; have q4 := x4.cell 4; have HX4 := hid x4; have HB4 := hid (HB3.out.trans (b4.mono HB3.out.size)); clear x4 b4))
      go_ret
      exact BoO.of HF.out HB4.out
     | false =>
      cases rt with
      | false =>
       have HF : Hid (o = false) := hid (by rw [HTT.out]; rfl)
       go_wp2_with (first | (go_at_call 65; (with_reducible refine (HT.out _).mono ?_); rintro e w1 ⟨rfl, b3⟩; have x3 := (Off.of_below b3).blk HX.out (fun h => h); have q0 := x3.cell 0; have q1 := x3.cell 1; have q2 := x3.cell 2; have q3 := x3.cell 3; have q4 := x3.cell 4; have HX3 := hid x3; have HB3 := hid (HB1.out.trans (b3.mono HB1.out.size)); have d0 := (HB3.out.cell (p := ⟨bb, off + j * 5, none⟩) HBL.out).trans HD.out.1; have d1 := (HB3.out.cell (p := ⟨bb, off + j * 5 + 1, none⟩) HBL.out).trans HD.out.2.1; have d2 := (HB3.out.cell (p := ⟨bb, off + j * 5 + 2, none⟩) HBL.out).trans HD.out.2.2.1; have d3 := (HB3.out.cell (p := ⟨bb, off + j * 5 + 3, none⟩) HBL.out).trans HD.out.2.2.2.1; have d4 := (HB3.out.cell (p := ⟨bb, off + j * 5 + 4, none⟩) HBL.out).trans HD.out.2.2.2.2; clear HT; clear x3 b3) | (go_at_call 65; (with_reducible refine (HTP.out _).mono ?_); rintro e w2 ⟨rfl, b4⟩; have x4 := (Off.of_below b4).blk HX3.out (fun h => h); have q0 := x4.cell 0; have q1 := x4.cell 1; have q2 := x4.cell 2; have q3 := x4.cell 3; have q4 := x4.cell 4; have HX4 := hid x4; have HB4 := hid (HB3.out.trans (b4.mono HB3.out.size)); clear x4 b4) | (go_at_call 92; (with_reducible refine (HRT.out _ (XR.off (Off.of_below HB4.out) (fun _ _ h => h) _ _ HXR.out) (HM.out.below HB4.out)).mono ?_); rintro e w5 ⟨rfl, b5⟩; have HB5 := hid (HB4.out.trans (b5.mono HB4.out.size)); clear b5))
       go_ret
       exact BoO.of HF.out HB5.out
      | true =>
       have HF : Hid (o = rightKidsB (rightX n) (prevB ks (j + 1 + 1)) (ks.drop (j + 1 + 1))) := hid (by rw [HTT.out]; rfl)
       go_wp2_with (first | (go_at_call 65; (with_reducible refine (HT.out _).mono ?_); rintro e w1 ⟨rfl, b3⟩; have x3 := (Off.of_below b3).blk HX.out (fun h => h); have q0 := x3.cell 0; have q1 := x3.cell 1; have q2 := x3.cell 2; have q3 := x3.cell 3; have q4 := x3.cell 4; have HX3 := hid x3; have HB3 := hid (HB1.out.trans (b3.mono HB1.out.size)); have d0 := (HB3.out.cell (p := ⟨bb, off + j * 5, none⟩) HBL.out).trans HD.out.1; have d1 := (HB3.out.cell (p := ⟨bb, off + j * 5 + 1, none⟩) HBL.out).trans HD.out.2.1; have d2 := (HB3.out.cell (p := ⟨bb, off + j * 5 + 2, none⟩) HBL.out).trans HD.out.2.2.1; have d3 := (HB3.out.cell (p := ⟨bb, off + j * 5 + 3, none⟩) HBL.out).trans HD.out.2.2.2.1; have d4 := (HB3.out.cell (p := ⟨bb, off + j * 5 + 4, none⟩) HBL.out).trans HD.out.2.2.2.2; clear HT; clear x3 b3) | (go_at_call 65; (with_reducible refine (HTP.out _).mono ?_); rintro e w2 ⟨rfl, b4⟩; have x4 := (Off.of_below b4).blk HX3.out (fun h => h); have q0 := x4.cell 0; have q1 := x4.cell 1; have q2 := x4.cell 2; have q3 := x4.cell 3; have q4 := x4.cell 4; have HX4 := hid x4; have HB4 := hid (HB3.out.trans (b4.mono HB3.out.size)); clear x4 b4) | (go_at_call 92; (with_reducible refine (HRT.out _ (XR.off (Off.of_below HB4.out) (fun _ _ h => h) _ _ HXR.out) (HM.out.below HB4.out)).mono ?_); rintro e w5 ⟨rfl, b5⟩; have HB5 := hid (HB4.out.trans (b5.mono HB4.out.size)); clear b5))
       go_roundw
       case rel => exact ⟨rfl, j + 1 + 1, by omega, by go_num, HB5, HF⟩
       case measure => simp [RowKit.intOf]; omega
   ·have HTT : Hid (o = (rightX n kid && rightKidsB (rightX n) (prevB ks (k + 1)) (ks.drop (k + 1)))) := hid (by rw [HQ.out, HST.out, if_neg h0])
    have hnb : (kid.name == []) = false := beq_false_of_ne h0
    rw [hnb] at HT
    have HRI := hid (fun W (hW : XR W T kid (.agg #[sV kid.space, sV kid.name, .slice aA nA ac, .slice kA nK kc, sV kid.text])) (hM : ML W) => HC.out kid _ T W hW hwk hM)
    unfold BoO at HRI
    obtain ⟨b, hb⟩ : ∃ b, rightX n kid = b := ⟨_, rfl⟩
    rw [hb] at HRI HTT
    clear h0 hnb HQ HST hb
    cases b with
    | false =>
     have HF : Hid (o = false) := hid (by rw [HTT.out]; rfl)
     go_wp2_with (first | (go_at_call 65; (with_reducible refine (HT.out _).mono ?_); rintro e w1 ⟨rfl, b3⟩; have x3 := (Off.of_below b3).blk HX.out (fun h => h); have q0 := x3.cell 0; have q1 := x3.cell 1; have q2 := x3.cell 2; have q3 := x3.cell 3; have q4 := x3.cell 4; have HX3 := hid x3; have HB3 := hid (HB1.out.trans (b3.mono HB1.out.size)); clear x3 b3) | (go_at_call 36; (with_reducible refine (HRI.out _ (XR.off (Off.of_below HB3.out) (fun _ _ h => h) _ _ HXR.out) (HM.out.below HB3.out)).mono ?_); rintro e w2 ⟨rfl, b4⟩; have HB4 := hid (HB3.out.trans (b4.mono HB3.out.size)); clear b4))
     go_ret
     exact BoO.of HF.out HB4.out
    | true =>
     have HF : Hid (o = rightKidsB (rightX n) (prevB ks (k + 1)) (ks.drop (k + 1))) := hid (by rw [HTT.out, Bool.true_and])
     go_wp2_with (first | (go_at_call 65; (with_reducible refine (HT.out _).mono ?_); rintro e w1 ⟨rfl, b3⟩; have x3 := (Off.of_below b3).blk HX.out (fun h => h); have q0 := x3.cell 0; have q1 := x3.cell 1; have q2 := x3.cell 2; have q3 := x3.cell 3; have q4 := x3.cell 4; have HX3 := hid x3; have HB3 := hid (HB1.out.trans (b3.mono HB1.out.size)); clear x3 b3) | (go_at_call 36; (with_reducible refine (HRI.out _ (XR.off (Off.of_below HB3.out) (fun _ _ h => h) _ _ HXR.out) (HM.out.below HB3.out)).mono ?_); rintro e w2 ⟨rfl, b4⟩; have HB4 := hid (HB3.out.trans (b4.mono HB3.out.size)); clear b4))
     go_roundw
     case rel => exact ⟨rfl, k + 1, by omega, by go_num, HB4, HF⟩
     case measure => simp [RowKit.intOf]; omega
  ·obtain rfl : k = m := by omega
   have hdk : ks.drop k = [] := List.drop_of_length_le (by rw [HN.out]; exact Nat.le_refl _)
   rw [hdk] at HQ
   have HF : Hid (o = true) := hid (by rw [HQ.out]; rfl)
   clear hdk HQ
   go_wp2
   go_ret
   exact BoO.of HF.out HB.out
def namedX (v : XV) (sp nm : Bt) : Bool := !(v.name == []) && v.space == sp && v.name == nm
set_option maxRecDepth 100000 in
set_option maxHeartbeats 2000000 in
theorem named8_any {w W : World} {T : Nat → Prop} {v : XV} {x : Value} (h : XR W T v x) (sp nm : Bt) :
    Calls Tryz.prog 43 #[x, .string (bs sp), .string (bs nm)] w (BoO (namedX v sp nm) w) := by
 have HT := hid (fun V => isText_any (w := V) h)
 obtain ⟨aA, ac, kA, kc, rfl⟩ := xr_one h
 have HB := hid (below_alloc8 w (.cells #[sV v.space, sV v.name, .slice aA v.attrs.length ac, .slice kA v.kids.length kc, sV v.text] TNo))
 have HX := hid (Blk.new (.cells #[sV v.space, sV v.name, .slice aA v.attrs.length ac, .slice kA v.kids.length kc, sV v.text] TNo) w)
 unfold BoO at HT
 have HO : Hid (namedX v sp nm = (!(v.name == []) && v.space == sp && v.name == nm)) := hid rfl
 obtain ⟨o, ho⟩ : ∃ o, namedX v sp nm = o := ⟨_, rfl⟩
 obtain ⟨b0, hb0⟩ : ∃ o, (v.name == []) = o := ⟨_, rfl⟩
 obtain ⟨b1, hb1⟩ : ∃ o, (v.space == sp) = o := ⟨_, rfl⟩
 obtain ⟨b2, hb2⟩ : ∃ o, (v.name == nm) = o := ⟨_, rfl⟩
 rw [ho, hb0, hb1, hb2] at HO
 rw [hb0] at HT
 rw [ho]
 have e1 : ((bs v.space).toList == (bs sp).toList) = b1 := by rw [eqS8]; exact hb1
 have e2 : ((bs v.name).toList == (bs nm).toList) = b2 := by rw [eqS8]; exact hb2
 obtain ⟨nA, hnA⟩ : ∃ n, v.attrs.length = n := ⟨_, rfl⟩
 obtain ⟨nK, hnK⟩ : ∃ n, v.kids.length = n := ⟨_, rfl⟩
 rw [hnA, hnK] at HB HX HT
 rw [hnA, hnK]
 clear h ho hb0 hb1 hb2 hnA hnK
 go_enter Tryz.func43, Tryz.ntmps43
 cases b0 with
 | true =>
  go_wp2_with (go_at_call 65; (with_reducible refine (HT.out _).mono ?_); rintro e w1 ⟨rfl, b3⟩; have x1 := (Off.of_below b3).blk HX.out (fun h => h); have q0 := x1.cell 0; have q1 := x1.cell 1; have HB1 := hid (HB.out.trans (b3.mono HB.out.size)); clear x1 b3)
  go_ret
  exact BoO.of (by rw [HO.out]; rfl) HB1.out
 | false =>
  cases b1 with
  | false =>
   go_wp2_with (go_at_call 65; (with_reducible refine (HT.out _).mono ?_); rintro e w1 ⟨rfl, b3⟩; have x1 := (Off.of_below b3).blk HX.out (fun h => h); have q0 := x1.cell 0; have q1 := x1.cell 1; have HB1 := hid (HB.out.trans (b3.mono HB.out.size)); clear x1 b3)
   go_ret
   exact BoO.of (by rw [HO.out]; rfl) HB1.out
  | true =>
   go_wp2_with (go_at_call 65; (with_reducible refine (HT.out _).mono ?_); rintro e w1 ⟨rfl, b3⟩; have x1 := (Off.of_below b3).blk HX.out (fun h => h); have q0 := x1.cell 0; have q1 := x1.cell 1; have HB1 := hid (HB.out.trans (b3.mono HB.out.size)); clear x1 b3)
   go_ret
   exact BoO.of (by rw [HO.out]; rfl) HB1.out
def valA : List XA → Bt → Bt
 | [], _ => []
 | a :: l, nm => if a.1 = [] ∧ a.2.1 = nm then a.2.2 else valA l nm
theorem valA_step {l : List XA} {k : Nat} (h : k < l.length) (nm : Bt) : valA (l.drop k) nm = if l[k].1 = [] ∧ l[k].2.1 = nm then l[k].2.2 else valA (l.drop (k + 1)) nm := by
 rw [List.drop_eq_getElem_cons h, valA]
def valX (v : XV) (nm : Bt) : Bt := valA v.attrs nm
set_option maxRecDepth 100000 in
set_option maxHeartbeats 4000000 in
theorem value8_any {T : Nat → Prop} {v : XV} {x : Value} {w : World} (hx : XR w T v x) (hw : wX v ≤ 100000) (nm : Bt) :
    Calls Tryz.prog 21 #[x, .string (bs nm)] w fun e w' => e = .returned (.string (bs (valX v nm))) ∧ Below w.heap.size w w' := by
 have hat : ∃ aA ac kA kc, x = .agg #[sV v.space, sV v.name, .slice aA v.attrs.length ac, .slice kA v.kids.length kc, sV v.text] ∧ RC w T aA (cA v.attrs) ∧ RN8 w T kA v.kids := by
  obtain ⟨sp, nm, al, ks, tx⟩ := v
  exact XR.attrs hx
 obtain ⟨aA, ac, kA, kc, rfl, hR, _⟩ := hat
 have HB := hid (below_alloc8 w (.cells #[sV v.space, sV v.name, .slice aA v.attrs.length ac, .slice kA v.kids.length kc, sV v.text] TNo))
 have hsm := wX_attrs hw
 obtain ⟨al, hal⟩ : ∃ n, v.attrs = n := ⟨_, rfl⟩
 have hlA := wX_text v
 have hal9 : al.length ≤ 100000 := by rw [← hal]; omega
 unfold valX
 rw [hal] at hR hsm HB
 rw [hal]
 obtain ⟨nA, hnA⟩ : ∃ n, al.length = n := ⟨_, rfl⟩
 obtain ⟨nK, hnK⟩ : ∃ n, v.kids.length = n := ⟨_, rfl⟩
 have HNA := hid hnA
 have HR := hid hR
 have HSM := hid hsm
 rw [hnA, hnK] at HB
 rw [hnA] at hal9
 rw [hnA, hnK]
 obtain ⟨o, ho⟩ : ∃ o, valA al nm = o := ⟨_, rfl⟩
 have HO : Hid (o = valA (al.drop 0) nm) := hid (by rw [List.drop_zero]; exact ho.symm)
 rw [ho]
 clear hx hw hR hsm hal hlA hnA hnK ho
 go_enter Tryz.func21, Tryz.ntmps21
 go_wp2
 go_loopw [10] (fun i wr => ∃ k : Nat, k ≤ nA ∧ i = .int .i64 k ∧ Hid (Below w.heap.size w wr) ∧ Hid (o = valA (al.drop k) nm)) (fun i _ => nA - (RowKit.intOf i).toNat)
 case atStart => exact ⟨0, Nat.zero_le _, rfl, HB, HO⟩
 case round =>
  clear HB HO
  obtain ⟨k, hk, rfl, HB, HQ⟩ := hrel
  by_cases hlt : k < nA
  ·have hkl : k < al.length := by rw [HNA.out]; exact hlt
   obtain ⟨bb, off, hAe, hT, hbl, hcl⟩ := HR.out (by rw [cA_len]; omega)
   obtain ⟨c0, c1, c2⟩ := RC.a3 hcl k hkl
   have hsa := HSM.out _ (List.getElem_mem hkl)
   have HST := hid (valA_step hkl nm)
   obtain ⟨a, ha⟩ : ∃ a, al[k] = a := ⟨_, rfl⟩
   rw [ha] at c0 c1 c2 hsa HST
   have hb := HB.out
   have y0 := (hb.cell (p := ⟨bb, off + k * 3, none⟩) hbl).trans c0
   have y1 := (hb.cell (p := ⟨bb, off + k * 3 + 1, none⟩) hbl).trans c1
   have y2 := (hb.cell (p := ⟨bb, off + k * 3 + 2, none⟩) hbl).trans c2
   subst hAe
   obtain ⟨⟨asp, anm, avl⟩, rfl⟩ : ∃ x : XA, a = x := ⟨_, rfl⟩
   simp only at y0 y1 y2 hsa HST
   have HCL := hid (fun V => clone_any avl (by omega) V)
   have hB1 := below_alloc8 wr (.cells #[sV asp, sV anm, sV avl] TA3 (0, 0))
   have HB1 : Hid (Below w.heap.size w (wr.alloc (.cells #[sV asp, sV anm, sV avl] TA3 (0, 0)))) := hid (hb.trans (hB1.mono hb.size))
   clear c0 c1 c2 hcl ha hb hB1 hsa
   by_cases h1 : asp = []
   ·have hs1 : (bs asp).toList = [] := by rw [bs_toList]; exact h1
    by_cases h2 : anm = nm
    ·have hs2 : ((bs anm).toList == (bs nm).toList) = true := by rw [eqS8, h2]; exact beq_self_eq_true _
     have hs3 : (bs anm).toList = (bs nm).toList := by rw [h2]
     have HF : Hid (o = avl) := hid (by rw [HQ.out, HST.out, if_pos ⟨h1, h2⟩])
     clear h1 h2 HQ HST
     go_wp2_with (go_at_call 45; (with_reducible refine (HCL.out _).mono ?_); rintro e w1 ⟨rfl, b3⟩; have HB3 := hid (HB1.out.trans (b3.mono HB1.out.size)); clear b3)
     go_ret
     exact ⟨by rw [HF.out]; rfl, HB3.out⟩
    ·have hs2 : ((bs anm).toList == (bs nm).toList) = false := by rw [eqS8]; exact beq_false_of_ne h2
     have hs3 : ¬ (bs anm).toList = (bs nm).toList := by rw [bs_toList, bs_toList]; exact h2
     have HF : Hid (o = valA (al.drop (k + 1)) nm) := hid (by rw [HQ.out, HST.out, if_neg (fun h => h2 h.2)])
     clear h1 h2 HQ HST
     go_wp2
     go_roundw
     case rel => exact ⟨k + 1, by omega, by go_num, HB1, HF⟩
     case measure => simp [RowKit.intOf]; omega
   ·have hs1 : ¬ (bs asp).toList = [] := by rw [bs_toList]; exact h1
    have hs2 : (bs asp).toList.isEmpty = false := by rw [bs_toList]; cases hq : asp with | nil => exact absurd hq h1 | cons => rfl
    have HF : Hid (o = valA (al.drop (k + 1)) nm) := hid (by rw [HQ.out, HST.out, if_neg (fun h => h1 h.1)])
    clear h1 HQ HST
    go_wp2
    go_roundw
    case rel => exact ⟨k + 1, by omega, by go_num, HB1, HF⟩
    case measure => simp [RowKit.intOf]; omega
  ·obtain rfl : nA = k := by omega
   have hdk : al.drop nA = [] := List.drop_of_length_le (by rw [HNA.out]; exact Nat.le_refl _)
   rw [hdk] at HQ
   have ho : o = [] := HQ.out
   subst ho
   go_wp2
   go_ret
   exact ⟨rfl, HB.out⟩
theorem set5_blk {B : Nat} {T : TypeId} {x y z u v a b c d e : Value} {w : World} (h : Blk B (.cells #[x, y, z, u, v] T (0, 0)) w) : Blk B (.cells #[a, b, c, d, e] T (0, 0)) (w.setCells B 0 [a, b, c, d, e]) := five_set h
theorem blk_there {B : Nat} {T : TypeId} {x y z u v : Value} {w : World} (h : Blk B (.cells #[x, y, z, u, v] T (0, 0)) w) : w.there B 0 5 := fun j hj => by
 rw [Nat.zero_add]
 refine ⟨?_, h.free j⟩
 rw [h.cell j]
 rw [Array.getElem?_eq_getElem (by show j < 5; exact hj)]
 rfl
structure MC8 (V : Nat) (sp nm tx : Bt) (av kv : Value) (cs : List Value) (T : Nat → Prop) (al : List XA) (ks : List XV) (w : World) : Prop where
 blk : Blk V (.cells #[sV sp, sV nm, av, kv, sV tx] TNo) w
 attrs : w.ownsRow (V + 1) TA3 3 av al.length (cA al)
 kids : w.ownsRow (V + 1) TNo 5 kv ks.length cs
 read : XRs w T ks cs
 apart : ∀ b, T b → V < b ∧ b < w.heap.size ∧ av.ownBlock ≠ some b ∧ kv.ownBlock ≠ some b
section
variable {V : Nat} {sp nm tx : Bt} {av kv av' kv' : Value} {cs : List Value} {T : Nat → Prop} {al : List XA} {ks : List XV} {w w' : World}
theorem MC8.new (h : Blk V (.cells #[sV sp, sV nm, .slice none 0 0, .slice none 0 0, sV tx] TNo) w) : MC8 V sp nm tx (.slice none 0 0) (.slice none 0 0) [] (fun _ => False) [] [] w :=
 ⟨h, World.ownsRow_nil w _ _ _, World.ownsRow_nil w _ _ _, rfl, fun _ h => h.elim⟩
theorem MC8.off {F : Nat → Prop} (M : MC8 V sp nm tx av kv cs T al ks w) (ho : Off F w w') (hF : ∀ b, F b → b < V ∨ w.heap.size ≤ b) : MC8 V sp nm tx av kv cs T al ks w' := by
 have hV := M.blk.lt
 refine ⟨ho.blk M.blk (fun e => by have := hF V e; omega), own_off M.attrs ho (fun b hb e => by have h1 := World.ownsRow.lt M.attrs b hb; have := hF b e; omega), own_off M.kids ho (fun b hb e => by have h1 := World.ownsRow.lt M.kids b hb; have := hF b e; omega),
  XRs.off ho (fun b hb e => by have h1 := M.apart b hb; have := hF b e; omega) _ _ M.read, fun b hb => ?_⟩
 have h1 := M.apart b hb
 exact ⟨h1.1, Nat.lt_of_lt_of_le h1.2.1 ho.size, h1.2.2⟩
theorem MC8.below (M : MC8 V sp nm tx av kv cs T al ks w) (hb : Below w.heap.size w w') : MC8 V sp nm tx av kv cs T al ks w' := M.off (Off.of_below hb) (fun _ h => h.elim)
theorem MC8.ha (M : MC8 V sp nm tx av kv cs T al ks w) {b : Nat} (h : av.ownBlock = some b) : V < b ∧ b < w.heap.size := by
 have := World.ownsRow.lt M.attrs b h
 exact ⟨by omega, this.2⟩
theorem MC8.hk (M : MC8 V sp nm tx av kv cs T al ks w) {b : Nat} (h : kv.ownBlock = some b) : V < b ∧ b < w.heap.size := by
 have := World.ownsRow.lt M.kids b h
 exact ⟨by omega, this.2⟩
theorem MC8.pushA {a : XA} {g cap : Nat} (M : MC8 V sp nm tx av kv cs T al ks w) (L : w'.ownsRow (V + 1) TA3 3 (.slice (some ⟨g, 0, none⟩) (al.length + 1) cap) (al.length + 1) (cA al ++ [sV a.1, sV a.2.1, sV a.2.2])) (ho : Off (fun b => av.ownBlock = some b) w w') (hg : av.ownBlock = some g ∨ w.heap.size ≤ g) :
    MC8 V sp nm tx (.slice (some ⟨g, 0, none⟩) (al.length + 1) cap) kv cs T (al ++ [a]) ks (w'.setCell ⟨V, 2, none⟩ (.slice (some ⟨g, 0, none⟩) (al.length + 1) cap)) ∧ Off (fun b => V ≤ b) w (w'.setCell ⟨V, 2, none⟩ (.slice (some ⟨g, 0, none⟩) (al.length + 1) cap)) := by
 have o3 := off_set8 w' V 2 (.slice (some ⟨g, 0, none⟩) (al.length + 1) cap)
 have hV := M.blk.lt
 have hgV : g ≠ V := fun e => by
  rcases hg with h | h
  ·have := M.ha h; omega
  ·omega
 have hB := ho.blk M.blk (fun e => by have := M.ha e; omega)
 refine ⟨⟨by have := hB.set 2 (.slice (some ⟨g, 0, none⟩) (al.length + 1) cap); simpa using this, ?_, ?_, ?_, fun b hb => ?_⟩, ?_⟩
 ·rw [List.length_append, List.length_singleton, cA_snoc]
  exact own_off L o3 (fun b hb e => by have : g = b := Option.some.inj hb; omega)
 ·exact own_off (own_off M.kids ho (fun b hb e => own_apart M.kids M.attrs (by decide) hb e)) o3 (fun b hb e => by have := M.hk hb; omega)
 ·exact XRs.off o3 (fun b hb e => by have := (M.apart b hb).1; omega) _ _ (XRs.off ho (fun b hb e => (M.apart b hb).2.2.1 e) _ _ M.read)
 ·have h1 := M.apart b hb
  refine ⟨h1.1, Nat.lt_of_lt_of_le h1.2.1 (Nat.le_trans ho.size o3.size), fun e => ?_, h1.2.2.2⟩
  have e' : g = b := Option.some.inj e
  subst e'
  rcases hg with h | h
  ·exact h1.2.2.1 h
  ·omega
 ·exact (ho.mono (fun b h => Nat.le_of_lt (M.ha h).1)).then (o3.mono (fun b h => Nat.le_of_eq h.symm))
theorem MC8.pushK {v : XV} {x0 x1 x2 x3 x4 : Value} {U : Nat → Prop} {g cap : Nat} (M : MC8 V sp nm tx av kv cs T al ks w) (hU : ∀ b, U b → V < b ∧ b < w.heap.size ∧ av.ownBlock ≠ some b ∧ kv.ownBlock ≠ some b) (hv : XR w U v (.agg #[x0, x1, x2, x3, x4]))
    (L : w'.ownsRow (V + 1) TNo 5 (.slice (some ⟨g, 0, none⟩) (ks.length + 1) cap) (ks.length + 1) (cs ++ [x0, x1, x2, x3, x4])) (ho : Off (fun b => kv.ownBlock = some b) w w') (hg : kv.ownBlock = some g ∨ w.heap.size ≤ g) :
    MC8 V sp nm tx av (.slice (some ⟨g, 0, none⟩) (ks.length + 1) cap) (cs ++ [x0, x1, x2, x3, x4]) (fun b => T b ∨ U b) al (ks ++ [v]) (w'.setCell ⟨V, 3, none⟩ (.slice (some ⟨g, 0, none⟩) (ks.length + 1) cap)) ∧ Off (fun b => V ≤ b) w (w'.setCell ⟨V, 3, none⟩ (.slice (some ⟨g, 0, none⟩) (ks.length + 1) cap)) := by
 have o3 := off_set8 w' V 3 (.slice (some ⟨g, 0, none⟩) (ks.length + 1) cap)
 have hV := M.blk.lt
 have hgV : g ≠ V := fun e => by
  rcases hg with h | h
  ·have := M.hk h; omega
  ·omega
 have hB := ho.blk M.blk (fun e => by have := M.hk e; omega)
 have hTU : ∀ b, (T b ∨ U b) → V < b ∧ b < w.heap.size ∧ av.ownBlock ≠ some b ∧ kv.ownBlock ≠ some b := fun b hb => hb.elim (M.apart b) (hU b)
 refine ⟨⟨by have := hB.set 3 (.slice (some ⟨g, 0, none⟩) (ks.length + 1) cap); simpa using this, ?_, ?_, ?_, fun b hb => ?_⟩, ?_⟩
 ·exact own_off (own_off M.attrs ho (fun b hb e => own_apart M.attrs M.kids (by decide) hb e)) o3 (fun b hb e => by have := M.ha hb; omega)
 ·rw [List.length_append, List.length_singleton]
  exact own_off L o3 (fun b hb e => by have : g = b := Option.some.inj hb; omega)
 ·have r1 := XRs.mono (T' := fun b => T b ∨ U b) (fun b h => Or.inl h) _ _ M.read
  have r2 := XR.mono (T' := fun b => T b ∨ U b) (fun b h => Or.inr h) _ _ hv
  exact XRs.off o3 (fun b hb e => by have := (hTU b hb).1; omega) _ _ (XRs.off ho (fun b hb e => (hTU b hb).2.2.2 e) _ _ (XRs.snoc r2 _ _ r1))
 ·have h1 := hTU b hb
  refine ⟨h1.1, Nat.lt_of_lt_of_le h1.2.1 (Nat.le_trans ho.size o3.size), h1.2.2.1, fun e => ?_⟩
  have e' : g = b := Option.some.inj e
  subst e'
  rcases hg with h | h
  ·exact h1.2.2.2 h
  ·omega
 ·exact (ho.mono (fun b h => Nat.le_of_lt (M.hk h).1)).then (o3.mono (fun b h => Nat.le_of_eq h.symm))
theorem MC8.value (M : MC8 V sp nm tx av kv cs T al ks w) : XR w (fun b => V ≤ b ∧ b < w.heap.size) (.mk sp nm al ks tx) (.agg #[sV sp, sV nm, av, kv, sV tx]) := by
 obtain ⟨aA, ac, rfl, _, ha⟩ := RC.of_own M.attrs (fun b => V ≤ b ∧ b < w.heap.size) (fun b hb => by have := M.ha hb; exact ⟨by omega, this.2⟩)
 obtain ⟨kA, kc, e, hk⟩ := RN8.of_own (T' := fun b => V ≤ b ∧ b < w.heap.size) M.kids rfl M.read (fun b hb => by have := M.apart b hb; exact ⟨by omega, this.2.1⟩) (fun b hb => by have := M.hk hb; exact ⟨by omega, this.2⟩)
 subst e
 exact XR.of ha hk
theorem MC8.aForm (M : MC8 V sp nm tx av kv cs T al ks w) : ∃ A c, av = .slice A al.length c := by
 obtain ⟨A, c, e, _⟩ := RC.of_own M.attrs (fun _ => True) (fun _ _ => trivial)
 exact ⟨A, c, e⟩
theorem MC8.kForm (M : MC8 V sp nm tx av kv cs T al ks w) : ∃ A c, kv = .slice A ks.length c := by
 obtain ⟨A, c, e, _⟩ := RC.of_own M.kids (fun _ => True) (fun _ _ => trivial)
 exact ⟨A, c, e⟩
end
section
variable {P : Program} {ops : Array Oper} {a : Act} {o : Oper} {K : Act → World → Prop} {Q : Exit → Act → World → Prop} {E : Prop}
theorem step_stA (hgd : o.guard = none) (t u : Nat) (ho : o.op = .store 24 (.tmp t) (.tmp u)) (hd : o.dst = none) (w : World) {b k : Nat} {v old : Value} (hx : a.eval (.tmp t) = .pointer (some ⟨b, k, none⟩)) (hy : a.eval (.tmp u) = v) (hc : w.cell? ⟨b, k, none⟩ = some old) (hf : w.frozen? ⟨b, k, none⟩ = false) (hs : ∃ A n c, v = .slice A n c)
    (h : K a (w.setCell ⟨b, k, none⟩ v)) : if Region.wanted o (yielded ops a.tmps) = true then Oper.wp Tryz.prog o a w K Q else E := by
 have hw : Region.wanted o (yielded ops a.tmps) = true := by simp [Region.wanted, hgd]
 rw [if_pos hw]
 obtain ⟨A, n, c, rfl⟩ := hs
 have e0 : (⟨b, k, none⟩ : Addr).add 0 = ⟨b, k, none⟩ := by simp [Addr.add]
 have hst := run_store Tryz.prog w ⟨b, k, none⟩ (.slice A n c) .plain rfl
 rw [hc] at hst
 simp only [hf] at hst
 have hT : (Go.sizeOf 24).run Tryz.prog w = .ok 1 w := by
  have h : (Tryz.prog.info? 24).map (fun i => i.size) = some 1 := by kernel_rfl
  cases hi : Tryz.prog.info? 24 with
  | none => rw [hi] at h; cases h
  | some i => rw [hi] at h; simp at h; simp [sizeOf, typeInfo, hi, h]
 have hr : (Instr.storeAt 24 (.pointer (some ⟨b, k, none⟩)) (.slice A n c)).run Tryz.prog w = .ok () (w.setCell ⟨b, k, none⟩ (.slice A n c)) := by
  have hcl : (Value.slice A n c).cells = #[.slice A n c] := rfl
  simp [Instr.storeAt, Instr.sureAddr, storeVar, hT, hcl, storeCells, e0, hst]
 unfold Oper.wp execOp
 simp only [ho, hx, hy, Sem.run_bind, Sem.run_pure, Result.andThen_ok, hr]
 show K (a.put o.dst _) _
 rw [hd]
 exact h
theorem step_ldA (hgd : o.guard = none) (t : Nat) (ty : TypeId) (hty : ty = 24 ∨ ty = 25) (ho : o.op = .load ty (.tmp t)) (w : World) {b k : Nat} {v : Value} (hx : a.eval (.tmp t) = .pointer (some ⟨b, k, none⟩)) (hc : w.cell? ⟨b, k, none⟩ = some v) (hs : ∃ A n c, v = .slice A n c)
    (h : K (a.put o.dst v) w) : if Region.wanted o (yielded ops a.tmps) = true then Oper.wp Tryz.prog o a w K Q else E := by
 have hw : Region.wanted o (yielded ops a.tmps) = true := by simp [Region.wanted, hgd]
 rw [if_pos hw]
 unfold Oper.wp
 obtain ⟨A, n, c, rfl⟩ := hs
 have run : (execOp a.eval o).run Tryz.prog w = .ok (.value (.slice A n c)) w := by
  clear h hw
  rcases hty with rfl | rfl
  ·unfold execOp
   rw [ho]
   generalize a.eval = ev at *
   go_simp
  ·unfold execOp
   rw [ho]
   generalize a.eval = ev at *
   go_simp
 rw [run]
 exact h
theorem step_bs3 (hgd : o.guard = none) (t : Nat) (ho : o.op = .buildSlice 24 1 #[(0, .tmp t)]) (w : World) {x0 x1 x2 : Value} (hx : a.eval (.tmp t) = .agg #[x0, x1, x2])
    (h : K (a.put o.dst (.slice (some ⟨w.heap.size, 0, none⟩) 1 1)) (w.alloc (.cells #[x0, x1, x2] TA3 (0, 0)))) : if Region.wanted o (yielded ops a.tmps) = true then Oper.wp Tryz.prog o a w K Q else E := by
 have hw : Region.wanted o (yielded ops a.tmps) = true := by simp [Region.wanted, hgd]
 rw [if_pos hw]
 unfold Oper.wp
 have run : (execOp a.eval o).run Tryz.prog w = .ok (.value (.slice (some ⟨w.heap.size, 0, none⟩) 1 1)) (w.alloc (.cells #[x0, x1, x2] TA3 (0, 0))) := by
  clear h hw
  unfold execOp
  rw [ho]
  generalize a.eval = ev at *
  go_simp
 rw [run]
 exact h
theorem step_alN (hgd : o.guard = none) (ho : o.op = .alloc TNo) (w : World)
    (h : K (a.put o.dst (.pointer (some ⟨w.heap.size, 0, none⟩))) (w.alloc ZN)) : if Region.wanted o (yielded ops a.tmps) = true then Oper.wp Tryz.prog o a w K Q else E := by
 have hw : Region.wanted o (yielded ops a.tmps) = true := by simp [Region.wanted, hgd]
 rw [if_pos hw]
 unfold Oper.wp
 have run : (execOp a.eval o).run Tryz.prog w = .ok (.value (.pointer (some ⟨w.heap.size, 0, none⟩))) (w.alloc ZN) := by
  clear h hw
  unfold execOp
  rw [ho]
  generalize a.eval = ev at *
  go_simp
 rw [run]
 exact h
end
structure CLA (P R V : Nat) (src : Array Value) (sp nm tx : Bt) (av kv : Value) (cs : List Value) (T : Nat → Prop) (al : List XA) (ks : List XV) (w W : World) : Prop where
 par : Blk P (.cells src TNo) W
 res : Blk R ZN W
 mc : MC8 V sp nm tx av kv cs T al ks W
 since : Below w.heap.size w W
 o1 : w.heap.size ≤ P
 o2 : P < V
 o3 : R < V
 o4 : w.heap.size ≤ R
theorem CLA.below {P R V : Nat} {src : Array Value} {sp nm tx : Bt} {av kv : Value} {cs : List Value} {T : Nat → Prop} {al : List XA} {ks : List XV} {w W W' : World} (h : CLA P R V src sp nm tx av kv cs T al ks w W) (hb : Below W.heap.size W W') : CLA P R V src sp nm tx av kv cs T al ks w W' :=
 ⟨(Off.of_below hb).blk h.par (fun h => h), (Off.of_below hb).blk h.res (fun h => h), h.mc.below hb, h.since.trans (hb.mono h.since.size), h.o1, h.o2, h.o3, h.o4⟩
theorem CLA.off {P R V : Nat} {src : Array Value} {sp nm tx : Bt} {av kv av' kv' : Value} {cs cs' : List Value} {T T' : Nat → Prop} {al al' : List XA} {ks ks' : List XV} {w W W' : World} (h : CLA P R V src sp nm tx av kv cs T al ks w W) (M : MC8 V sp nm tx av' kv' cs' T' al' ks' W') (ho : Off (fun b => V ≤ b) W W') : CLA P R V src sp nm tx av' kv' cs' T' al' ks' w W' := by
 have h1 := h.o1
 have h2 := h.o2
 have h3 := h.o3
 have h4 := h.o4
 refine ⟨ho.blk h.par (fun e => by omega), ho.blk h.res (fun e => by omega), M, ?_, h.o1, h.o2, h.o3, h.o4⟩
 exact ((Off.of_below h.since).trans ho (fun b hb => .inr (by omega))).below (fun _ h => h.elim)
theorem rightX_succ (n : Nat) (v : XV) : rightX (n + 1) v = (rightNameB v.name && openB v.space && v.text == [] && rightAttrsB v.attrs && rightKidsB (rightX n) false v.kids) := by
 rw [rightX]
set_option maxRecDepth 100000 in
theorem right_zero : RightC 0 := fun v x T w hx hw hm => by
 obtain ⟨aA, ac, kA, kc, rfl⟩ := xr_one hx
 have HB := hid (below_alloc8 w (.cells #[sV v.space, sV v.name, .slice aA v.attrs.length ac, .slice kA v.kids.length kc, sV v.text] TNo))
 have HO : Hid (rightX 0 v = false) := hid (by rw [rightX])
 clear hx hw hm
 go_enter Tryz.func36, Tryz.ntmps36
 go_wp2
 go_ret
 exact BoO.of HO.out HB.out
set_option maxRecDepth 100000 in
set_option maxHeartbeats 8000000 in
theorem right_succ {n : Nat} (hn : n ≤ 1000) (hC : RightC n) : RightC (n + 1) := fun v x T w hx hw hm => by
 have hat : ∃ aA ac kA kc, x = .agg #[sV v.space, sV v.name, .slice aA v.attrs.length ac, .slice kA v.kids.length kc, sV v.text] ∧ RC w T aA (cA v.attrs) ∧ RN8 w T kA v.kids := by
  obtain ⟨sp, nm, al, ks, tx⟩ := v
  exact XR.attrs hx
 obtain ⟨aA, ac, kA, kc, rfl, hR, hK⟩ := hat
 have hB := below_alloc8 w (.cells #[sV v.space, sV v.name, .slice aA v.attrs.length ac, .slice kA v.kids.length kc, sV v.text] TNo)
 have HB := hid hB
 have HX := hid (Blk.new (.cells #[sV v.space, sV v.name, .slice aA v.attrs.length ac, .slice kA v.kids.length kc, sV v.text] TNo) w)
 have HM := hid hm
 obtain ⟨t1, t2, t3, t4, t5, t6⟩ := wX_text v
 have HNM := hid (rightName_any v.name (by omega) _ (hm.below hB))
 have HSP := hid (fun W (hW : ML W) => writable_any v.space (by omega) W hW)
 have HAT := hid (fun W (h1 : RC W T aA (cA v.attrs)) (h2 : ML W) => rightAttrs_any (c := ac) h1 (wX_attrs hw) (by omega) h2)
 have HKD := hid (fun W (h1 : RN8 W T kA v.kids) (h2 : ML W) => rightKids_any (c := kc) hC h1 (by omega) h2)
 have HR := hid hR
 have HK := hid hK
 unfold BoO at HNM HSP HAT HKD
 have HO := hid (rightX_succ n v)
 have hd1 : (0 : Int) < ((n + 1 : Nat) : Int) := by omega
 have hd2 : (0 : Int) < (n : Int) + 1 := by omega
 have hd3 : ((n + 1 : Nat) : Int) - 1 = (n : Int) := by omega
 have hd4 : (n : Int) + 1 - 1 = (n : Int) := by omega
 obtain ⟨o, ho⟩ : ∃ o, rightX (n + 1) v = o := ⟨_, rfl⟩
 obtain ⟨b1, e1⟩ : ∃ b, rightNameB v.name = b := ⟨_, rfl⟩
 obtain ⟨b2, e2⟩ : ∃ b, openB v.space = b := ⟨_, rfl⟩
 obtain ⟨b4, e4⟩ : ∃ b, rightAttrsB v.attrs = b := ⟨_, rfl⟩
 obtain ⟨b5, e5⟩ : ∃ b, rightKidsB (rightX n) false v.kids = b := ⟨_, rfl⟩
 rw [ho, e1, e2, e4, e5] at HO
 rw [e1] at HNM
 rw [e2] at HSP
 rw [e4] at HAT
 rw [e5] at HKD
 rw [ho]
 obtain ⟨nA, hnA⟩ : ∃ n, v.attrs.length = n := ⟨_, rfl⟩
 obtain ⟨nK, hnK⟩ : ∃ n, v.kids.length = n := ⟨_, rfl⟩
 obtain ⟨tx, htx⟩ : ∃ n, v.text = n := ⟨_, rfl⟩
 rw [hnA, hnK, htx] at HX HB HNM
 rw [hnA] at HAT
 rw [hnK] at HKD
 rw [htx] at HO
 rw [hnA, hnK, htx]
 clear hx hw hm hC hR hK hB t1 t2 t3 t4 t5 t6 ho e1 e2 e4 e5 hnA hnK htx
 cases b1 with
 | false =>
  have HF : Hid (o = false) := hid (by rw [HO.out]; rfl)
  go_enter Tryz.func36, Tryz.ntmps36
  go_wp2_with (first
   | (go_at_call 61; (with_reducible refine HNM.out.mono ?_); rintro e w1 ⟨rfl, b1⟩; have x1 := (Off.of_below b1).blk HX.out (fun h => h); have q0 := x1.cell 0; have q1 := x1.cell 1; have q2 := x1.cell 2; have q3 := x1.cell 3; have q4 := x1.cell 4; have HX1 := hid x1; have HB1 := hid (HB.out.trans (b1.mono HB.out.size)); clear x1 b1))
  go_ret
  exact BoO.of HF.out HB1.out
 | true =>
  cases b2 with
  | false =>
   have HF : Hid (o = false) := hid (by rw [HO.out]; rfl)
   go_enter Tryz.func36, Tryz.ntmps36
   go_wp2_with (first
    | (go_at_call 61; (with_reducible refine HNM.out.mono ?_); rintro e w1 ⟨rfl, b1⟩; have x1 := (Off.of_below b1).blk HX.out (fun h => h); have q0 := x1.cell 0; have q1 := x1.cell 1; have q2 := x1.cell 2; have q3 := x1.cell 3; have q4 := x1.cell 4; have HX1 := hid x1; have HB1 := hid (HB.out.trans (b1.mono HB.out.size)); clear x1 b1)
    | (go_at_call 62; (with_reducible refine (HSP.out _ (HM.out.below HB1.out)).mono ?_); rintro e w2 ⟨rfl, b2⟩; have x2 := (Off.of_below b2).blk HX1.out (fun h => h); have q0 := x2.cell 0; have q1 := x2.cell 1; have q2 := x2.cell 2; have q3 := x2.cell 3; have q4 := x2.cell 4; have HX2 := hid x2; have HB2 := hid (HB1.out.trans (b2.mono HB1.out.size)); clear x2 b2))
   go_ret
   exact BoO.of HF.out HB2.out
  | true =>
   by_cases h1 : tx = []
   ·have hs : (bs tx).toList = [] := by rw [bs_toList]; exact h1
    have hb : (tx == []) = true := by rw [h1]; rfl
    rw [hb] at HO
    clear h1 hb
    cases b4 with
    | false =>
     have HF : Hid (o = false) := hid (by rw [HO.out]; rfl)
     go_enter Tryz.func36, Tryz.ntmps36
     go_wp2_with (first
      | (go_at_call 61; (with_reducible refine HNM.out.mono ?_); rintro e w1 ⟨rfl, b1⟩; have x1 := (Off.of_below b1).blk HX.out (fun h => h); have q0 := x1.cell 0; have q1 := x1.cell 1; have q2 := x1.cell 2; have q3 := x1.cell 3; have q4 := x1.cell 4; have HX1 := hid x1; have HB1 := hid (HB.out.trans (b1.mono HB.out.size)); clear x1 b1)
      | (go_at_call 62; (with_reducible refine (HSP.out _ (HM.out.below HB1.out)).mono ?_); rintro e w2 ⟨rfl, b2⟩; have x2 := (Off.of_below b2).blk HX1.out (fun h => h); have q0 := x2.cell 0; have q1 := x2.cell 1; have q2 := x2.cell 2; have q3 := x2.cell 3; have q4 := x2.cell 4; have HX2 := hid x2; have HB2 := hid (HB1.out.trans (b2.mono HB1.out.size)); clear x2 b2)
      | (go_at_call 63; (with_reducible refine (HAT.out _ (HR.out.off (Off.of_below HB2.out) (fun _ _ h => h)) (HM.out.below HB2.out)).mono ?_); rintro e w4 ⟨rfl, b4⟩; have x4 := (Off.of_below b4).blk HX2.out (fun h => h); have q0 := x4.cell 0; have q1 := x4.cell 1; have q2 := x4.cell 2; have q3 := x4.cell 3; have q4 := x4.cell 4; have HX4 := hid x4; have HB4 := hid (HB2.out.trans (b4.mono HB2.out.size)); clear x4 b4))
     go_ret
     exact BoO.of HF.out HB4.out
    | true =>
     have HF : Hid (o = b5) := hid (by rw [HO.out]; rfl)
     go_enter Tryz.func36, Tryz.ntmps36
     go_wp2_with (first
      | (go_at_call 61; (with_reducible refine HNM.out.mono ?_); rintro e w1 ⟨rfl, b1⟩; have x1 := (Off.of_below b1).blk HX.out (fun h => h); have q0 := x1.cell 0; have q1 := x1.cell 1; have q2 := x1.cell 2; have q3 := x1.cell 3; have q4 := x1.cell 4; have HX1 := hid x1; have HB1 := hid (HB.out.trans (b1.mono HB.out.size)); clear x1 b1)
      | (go_at_call 62; (with_reducible refine (HSP.out _ (HM.out.below HB1.out)).mono ?_); rintro e w2 ⟨rfl, b2⟩; have x2 := (Off.of_below b2).blk HX1.out (fun h => h); have q0 := x2.cell 0; have q1 := x2.cell 1; have q2 := x2.cell 2; have q3 := x2.cell 3; have q4 := x2.cell 4; have HX2 := hid x2; have HB2 := hid (HB1.out.trans (b2.mono HB1.out.size)); clear x2 b2)
      | (go_at_call 63; (with_reducible refine (HAT.out _ (HR.out.off (Off.of_below HB2.out) (fun _ _ h => h)) (HM.out.below HB2.out)).mono ?_); rintro e w4 ⟨rfl, b4⟩; have x4 := (Off.of_below b4).blk HX2.out (fun h => h); have q0 := x4.cell 0; have q1 := x4.cell 1; have q2 := x4.cell 2; have q3 := x4.cell 3; have q4 := x4.cell 4; have HX4 := hid x4; have HB4 := hid (HB2.out.trans (b4.mono HB2.out.size)); clear x4 b4)
      | (go_at_call 64; (with_reducible refine (HKD.out _ (RN8.off HK.out (Off.of_below HB4.out) (fun _ _ h => h)) (HM.out.below HB4.out)).mono ?_); rintro e w5 ⟨rfl, b5⟩; have HB5 := hid (HB4.out.trans (b5.mono HB4.out.size)); clear b5))
     go_ret
     exact BoO.of HF.out HB5.out
   ·have hb : (tx == []) = false := beq_false_of_ne h1
    have hs : ¬ (bs tx).toList = [] := by rw [bs_toList]; exact h1
    have hs2 : (bs tx).toList.isEmpty = false := by rw [bs_toList]; cases hq : tx with | nil => exact absurd hq h1 | cons => rfl
    have HF : Hid (o = false) := hid (by rw [HO.out, hb]; rfl)
    clear h1 hb HO
    go_enter Tryz.func36, Tryz.ntmps36
    go_wp2_with (first
     | (go_at_call 61; (with_reducible refine HNM.out.mono ?_); rintro e w1 ⟨rfl, b1⟩; have x1 := (Off.of_below b1).blk HX.out (fun h => h); have q0 := x1.cell 0; have q1 := x1.cell 1; have q2 := x1.cell 2; have q3 := x1.cell 3; have q4 := x1.cell 4; have HX1 := hid x1; have HB1 := hid (HB.out.trans (b1.mono HB.out.size)); clear x1 b1)
     | (go_at_call 62; (with_reducible refine (HSP.out _ (HM.out.below HB1.out)).mono ?_); rintro e w2 ⟨rfl, b2⟩; have x2 := (Off.of_below b2).blk HX1.out (fun h => h); have q0 := x2.cell 0; have q1 := x2.cell 1; have q2 := x2.cell 2; have q3 := x2.cell 3; have q4 := x2.cell 4; have HX2 := hid x2; have HB2 := hid (HB1.out.trans (b2.mono HB1.out.size)); clear x2 b2))
    go_ret
    exact BoO.of HF.out HB2.out
theorem right_all : ∀ n : Nat, n ≤ 1000 → RightC n
 | 0, _ => right_zero
 | n + 1, h => right_succ (by omega) (right_all n (by omega))
theorem printX_text {v : XV} {ar : Bt} (h : v.name = []) : printX v ar = htmlB v.text := by
 obtain ⟨sp, nm, al, ks, tx⟩ := v
 have h' : nm = [] := h
 rw [printX, if_pos h']
 rfl
theorem printX_elem {v : XV} {ar : Bt} (h : v.name ≠ []) : printX v ar = (([60] ++ v.name) ++ (if v.space = ar then [] else attrP xmlnsW v.space)) ++ attrsP v.attrs ++ (if v.kids.length = 0 then [47, 62] else [62] ++ printsX v.kids v.space ++ [60, 47] ++ v.name ++ [62]) := by
 obtain ⟨sp, nm, al, ks, tx⟩ := v
 have h' : ¬ nm = [] := h
 rw [printX, if_neg h']
 show _ = (([60] ++ nm) ++ (if sp = ar then [] else attrP xmlnsW sp)) ++ attrsP al ++ (if ks.length = 0 then [47, 62] else [62] ++ printsX ks sp ++ [60, 47] ++ nm ++ [62])
 cases ks with
 | nil => simp
 | cons k l => simp
theorem attrsP_take {l : List XA} {k : Nat} (h : k < l.length) : attrsP (l.take (k + 1)) = attrsP (l.take k) ++ attrP l[k].2.1 l[k].2.2 := by
 rw [List.take_succ_eq_append_getElem h]
 simp only [attrsP, List.flatMap_append, List.flatMap_cons, List.flatMap_nil, List.append_nil]
theorem attrsP_split {l : List XA} {k : Nat} : attrsP l = attrsP (l.take k) ++ attrsP (l.drop k) := by
 unfold attrsP
 rw [← List.flatMap_append, List.take_append_drop]
theorem printsX_append (sp : Bt) : ∀ (a b : List XV), printsX (a ++ b) sp = printsX a sp ++ printsX b sp
 | [], b => by rw [List.nil_append, printsX, List.nil_append]
 | v :: a, b => by rw [List.cons_append, printsX, printsX, printsX_append sp a b, List.append_assoc]
theorem printsX_take {l : List XV} {k : Nat} (sp : Bt) (h : k < l.length) : printsX (l.take (k + 1)) sp = printsX (l.take k) sp ++ printX l[k] sp := by
 rw [List.take_succ_eq_append_getElem h, printsX_append, printsX, printsX, List.append_nil]
theorem printsX_split {l : List XV} (sp : Bt) (k : Nat) : (printsX l sp).length = (printsX (l.take k) sp).length + (printsX (l.drop k) sp).length := by
 rw [← List.length_append, ← printsX_append, List.take_append_drop]
theorem printsX_le {l : List XV} (sp : Bt) (k : Nat) : (printsX (l.take k) sp).length ≤ (printsX l sp).length := by
 have := printsX_split (l := l) sp k
 omega
theorem attrsP_le (l : List XA) (k : Nat) : (attrsP (l.take k)).length ≤ (attrsP l).length := by
 rw [attrsP_split (l := l) (k := k), List.length_append]
 omega
theorem attrsP_len : ∀ l : List XA, (attrsP l).length ≤ 200 * wA l
 | [] => Nat.zero_le _
 | a :: l => by
  have ih := attrsP_len l
  have h := attrP_len a.2.1 a.2.2
  unfold attrsP wA at *
  rw [List.flatMap_cons, List.length_append, List.map_cons, List.sum_cons]
  omega
mutual
theorem printX_len : ∀ (v : XV) (ar : Bt), (printX v ar).length ≤ 200 * wX v
 | .mk sp nm al ks tx, ar => by
  have h1 := printsX_len ks sp
  have h2 := attrsP_len al
  have h3 := htmlB_len tx
  have h4 := attrP_len xmlnsW sp
  have h5 : xmlnsW.length = 5 := rfl
  have hw := wX_eq (.mk sp nm al ks tx)
  simp only [XV.space, XV.name, XV.text, XV.attrs, XV.kids] at hw
  rw [printX]
  split
  ·omega
  ·have e1 : (if sp = ar then ([] : Bt) else attrP xmlnsW sp).length ≤ 120 * sp.length + 9 := by
    split
    ·exact Nat.zero_le _
    ·omega
   have e2 : (if ks.isEmpty = true then ([47, 62] : Bt) else 62 :: printsX ks sp ++ [60, 47] ++ nm ++ [62]).length ≤ (printsX ks sp).length + nm.length + 4 := by
    split
    ·simp only [List.length_cons, List.length_nil]; omega
    ·simp only [List.length_append, List.length_cons, List.length_nil]; omega
   simp only [List.length_append, List.length_cons]
   omega
theorem printsX_len : ∀ (l : List XV) (sp : Bt), (printsX l sp).length ≤ 200 * wXs l
 | [], sp => by rw [printsX]; exact Nat.zero_le _
 | v :: l, sp => by
  have h1 := printX_len v sp
  have h2 := printsX_len l sp
  rw [printsX, wXs, List.length_append]
  omega
end
def WriteC (N : Nat) : Prop := ∀ (T : Nat → Prop) (v : XV) (x : Value) (w0 W : World) (b : Nat) (acc ar : Bt), wX v ≤ N → wX v ≤ 100000 → XR w0 T v x → BSt w0 b acc W W → acc.length + (printX v ar).length ≤ 700000000 → ML w0 →
 Calls Tryz.prog 37 #[.pointer (some ⟨b, 0, none⟩), x, .string (bs ar)] W (BWr w0 b (acc ++ printX v ar) W)
theorem write_zero : WriteC 0 := fun T v x w0 W b acc ar h _ _ _ _ _ => by
 have := wX_eq v
 omega
set_option maxRecDepth 100000 in
set_option maxHeartbeats 8000000 in
theorem write_text {T : Nat → Prop} {v : XV} {x : Value} {w0 W : World} {b : Nat} {acc : Bt} (ar : Bt) (hw : wX v ≤ 100000) (hx : XR w0 T v x) (S : BSt w0 b acc W W) (hl : acc.length + (printX v ar).length ≤ 700000000) (hn : v.name = []) :
    Calls Tryz.prog 37 #[.pointer (some ⟨b, 0, none⟩), x, .string (bs ar)] W (BWr w0 b (acc ++ printX v ar) W) := by
 have hT := isText_any (w := W.alloc (.cells #[] TNo)) hx
 obtain ⟨aA, ac, kA, kc, rfl⟩ := xr_one hx
 have hB := below_alloc8 W (.cells #[sV v.space, sV v.name, .slice aA v.attrs.length ac, .slice kA v.kids.length kc, sV v.text] TNo)
 have HT := hid (fun V => isText_any (w := V) hx)
 have HX := hid (Blk.new (.cells #[sV v.space, sV v.name, .slice aA v.attrs.length ac, .slice kA v.kids.length kc, sV v.text] TNo) W)
 have HSW := hid (S.call hB)
 have HXb : Hid (W.heap.size ≠ b) := hid (by have := S.lt; omega)
 have hnb : (v.name == []) = true := by rw [hn]; rfl
 rw [hnb] at HT
 unfold BoO at HT
 obtain ⟨t1, t2, t3, t4, t5, t6⟩ := wX_text v
 rw [printX_text hn] at hl ⊢
 have HH := hid (fun V => html8_any v.text (by omega) V)
 obtain ⟨y, hy⟩ : ∃ y, htmlB v.text = y := ⟨_, rfl⟩
 rw [hy] at HH hl ⊢
 obtain ⟨nA, hnA⟩ : ∃ n, v.attrs.length = n := ⟨_, rfl⟩
 obtain ⟨nK, hnK⟩ : ∃ n, v.kids.length = n := ⟨_, rfl⟩
 rw [hnA, hnK] at HX HSW HT
 rw [hnA, hnK]
 clear hT hx S hB hn hnb t1 t2 t3 t4 t5 t6 hw hy hnA hnK
 go_enter Tryz.func37, Tryz.ntmps37
 go_wp2_with fail
 refine (HT.out _).mono ?_
 rintro e w1 ⟨rfl, b1⟩
 have HS1 := hid (HSW.out.here.call b1)
 have x1 := HS1.out.blk HX.out HXb.out (by decide)
 have q0 := x1.cell 0; have q1 := x1.cell 1; have q2 := x1.cell 2; have q3 := x1.cell 3; have q4 := x1.cell 4
 clear b1 x1
 go_wp2_with fail
 refine (HH.out _).mono ?_
 rintro e w2 ⟨rfl, b2⟩
 have HS2 := hid (HS1.out.call b2)
 clear b2
 go_wp2_with fail
 refine (wS8 HS2.out y (by omega)).mono ?_
 rintro e w3 ⟨⟨z3, rfl⟩, s3⟩
 have HS3 := hid (HSW.out.comp s3)
 clear s3
 go_wp2
 first | go_end0 | refine bodyPost_ret (results_none rfl _ _ _) rfl ?_
 exact ⟨rfl, HS3.out⟩
set_option maxRecDepth 100000 in
set_option maxHeartbeats 16000000 in
theorem write_elem {N : Nat} (IH : WriteC N) {T : Nat → Prop} {v : XV} {x : Value} {w0 W : World} {b : Nat} {acc ar : Bt} (hN : wX v ≤ N + 1) (hw : wX v ≤ 100000) (hx : XR w0 T v x) (S : BSt w0 b acc W W) (hl : acc.length + (printX v ar).length ≤ 700000000) (hm : ML w0) (hn : v.name ≠ []) :
    Calls Tryz.prog 37 #[.pointer (some ⟨b, 0, none⟩), x, .string (bs ar)] W (BWr w0 b (acc ++ printX v ar) W) := by
 have hat : ∃ aA ac kA kc, x = .agg #[sV v.space, sV v.name, .slice aA v.attrs.length ac, .slice kA v.kids.length kc, sV v.text] ∧ RC w0 T aA (cA v.attrs) ∧ RN8 w0 T kA v.kids := by
  obtain ⟨sp, nm, al, ks, tx⟩ := v
  exact XR.attrs hx
 have hT0 := fun V => isText_any (w := V) hx
 obtain ⟨aA, ac, kA, kc, rfl, hR, hK⟩ := hat
 have HT := hid hT0
 have hB := below_alloc8 W (.cells #[sV v.space, sV v.name, .slice aA v.attrs.length ac, .slice kA v.kids.length kc, sV v.text] TNo)
 have HX := hid (Blk.new (.cells #[sV v.space, sV v.name, .slice aA v.attrs.length ac, .slice kA v.kids.length kc, sV v.text] TNo) W)
 have HSW := hid (S.call hB)
 have HXb : Hid (W.heap.size ≠ b) := hid (by have := S.lt; omega)
 have hnb : (v.name == []) = false := beq_false_of_ne hn
 rw [hnb] at HT
 unfold BoO at HT
 obtain ⟨t1, t2, t3, t4, t5, t6⟩ := wX_text v
 have hsm := wX_attrs hw
 have hwe := wX_eq v
 rw [printX_elem hn] at hl
 rw [printX_elem hn]
 obtain ⟨sp, hsp⟩ : ∃ s, v.space = s := ⟨_, rfl⟩
 obtain ⟨nm, hnm⟩ : ∃ s, v.name = s := ⟨_, rfl⟩
 obtain ⟨al, hal⟩ : ∃ s, v.attrs = s := ⟨_, rfl⟩
 obtain ⟨ks, hks⟩ : ∃ s, v.kids = s := ⟨_, rfl⟩
 obtain ⟨tx, htx⟩ : ∃ s, v.text = s := ⟨_, rfl⟩
 rw [hsp, hnm, hal, hks, htx] at HX HSW HT
 rw [hal] at hR hsm
 rw [hks] at hK t6
 rw [hsp] at t1
 rw [hnm] at t2
 rw [hsp, hnm, hal, hks] at hl ⊢
 rw [htx]
 rw [hks] at hwe
 have HR := hid hR
 have HK := hid hK
 have HM := hid hm
 have HSM := hid hsm
 have HIH := hid IH
 have HWK : Hid (wXs ks ≤ N ∧ wXs ks ≤ 100000) := hid ⟨by omega, by omega⟩
 obtain ⟨nA, hnA⟩ : ∃ n, al.length = n := ⟨_, rfl⟩
 obtain ⟨nK, hnK⟩ : ∃ n, ks.length = n := ⟨_, rfl⟩
 have HNA := hid hnA
 have HNK := hid hnK
 rw [hnA, hnK] at HX HSW HT
 rw [hnK] at hl ⊢
 have hnAb : nA ≤ 100000 := by rw [← hnA, ← hal]; omega
 have hnKb : nK ≤ 100000 := by rw [← hnK, ← hks]; omega
 rw [hnA]
 have hsp9 : sp.length ≤ 100000 := by omega
 have hnm9 : nm.length ≤ 100000 := by omega
 clear hx S hB hn hnb t1 t2 t3 t4 t5 t6 hw hT0 hR hK hm hsm IH hN hwe hnA hnK
 clear hsp hnm hal hks htx
 obtain ⟨OUT, hOUT⟩ : ∃ o, acc ++ ((([60] ++ nm) ++ (if sp = ar then [] else attrP xmlnsW sp)) ++ attrsP al ++ (if nK = 0 then [47, 62] else [62] ++ printsX ks sp ++ [60, 47] ++ nm ++ [62])) = o := ⟨_, rfl⟩
 rw [hOUT]
 obtain ⟨P2, hP2⟩ : ∃ p, (if sp = ar then ([] : Bt) else attrP xmlnsW sp) = p := ⟨_, rfl⟩
 rw [hP2] at hl hOUT
 have HOUT := hid hOUT.symm
 have HP2 := hid hP2
 have hA1 : acc.length + 1 + nm.length + P2.length + (attrsP al).length + (if nK = 0 then ([47, 62] : Bt) else [62] ++ printsX ks sp ++ [60, 47] ++ nm ++ [62]).length ≤ 700000000 := by
  simp only [List.length_append, List.length_cons, List.length_nil] at hl
  omega
 have HA1 := hid hA1
 have hA2 : acc.length + 1 + nm.length + P2.length + (attrsP al).length ≤ 700000000 := by omega
 clear hl hA1 hP2 hOUT
 go_enter Tryz.func37, Tryz.ntmps37
 go_wp2_with fail
 refine (HT.out _).mono ?_
 rintro e w1 ⟨rfl, b1⟩
 have HS1 := hid (HSW.out.here.call b1)
 have x1 := HS1.out.blk HX.out HXb.out (by decide)
 have q0 := x1.cell 0; have q1 := x1.cell 1; have q2 := x1.cell 2; have q3 := x1.cell 3; have q4 := x1.cell 4
 clear b1 x1 HT
 go_wp2_with fail
 refine (wB8 HS1.out 60 60 rfl (by omega)).mono ?_
 rintro e w2 ⟨rfl, s2⟩
 have HS2 := hid s2
 have x2 := s2.blk HX.out HXb.out (by decide)
 have q0 := x2.cell 0; have q1 := x2.cell 1; have q2 := x2.cell 2; have q3 := x2.cell 3; have q4 := x2.cell 4
 clear s2 x2
 go_wp2_with fail
 refine (wS8 HS2.out nm (by simp only [List.length_append, List.length_cons, List.length_nil]; omega)).mono ?_
 rintro e w3 ⟨⟨z3, rfl⟩, s3⟩
 have HS3 := hid s3
 have x3 := s3.blk HX.out HXb.out (by decide)
 have q0 := x3.cell 0; have q1 := x3.cell 1; have q2 := x3.cell 2; have q3 := x3.cell 3; have q4 := x3.cell 4
 clear s3 x3
 have HAT : ∀ (w4 : World), Hid (BSt w0 b (((acc ++ [60]) ++ nm) ++ P2) (W.alloc (.cells #[sV sp, sV nm, .slice aA nA ac, .slice kA nK kc, sV tx] TNo)) w4) → True := fun _ _ => trivial
 clear HAT
 by_cases hsa : sp = ar
 ·have hp2 : P2 = [] := by rw [← HP2.out, if_pos hsa]
  have hsq : ((bs sp).toList == (bs ar).toList) = true := by rw [hsa]; exact beq_self_eq_true _
  have hsq2 : (bs sp).toList = (bs ar).toList := by rw [hsa]
  have HS4 : Hid (BSt w0 b (((acc ++ [60]) ++ nm) ++ P2) (W.alloc (.cells #[sV sp, sV nm, .slice aA nA ac, .slice kA nK kc, sV tx] TNo)) w3) := hid (by rw [hp2, List.append_nil]; exact HS3.out)
  clear HS3 hsa hp2
  go_wp2
  go_loopw [34] (fun i wr => ∃ k : Nat, k ≤ nA ∧ i = .int .i64 k ∧ Hid (BSt w0 b ((((acc ++ [60]) ++ nm) ++ P2) ++ attrsP (al.take k)) (W.alloc (.cells #[sV sp, sV nm, .slice aA nA ac, .slice kA nK kc, sV tx] TNo)) wr)) (fun i _ => nA - (RowKit.intOf i).toNat)
  case atStart => exact ⟨0, Nat.zero_le _, rfl, hid (by rw [List.take_zero]; show BSt w0 b ((((acc ++ [60]) ++ nm) ++ P2) ++ []) _ _; rw [List.append_nil]; exact HS4.out)⟩
  case round =>
   clear HS4
   obtain ⟨k, hk, rfl, HSK⟩ := hrel
   have xk := HSK.out.blk HX.out HXb.out (by decide)
   have p0 := xk.cell 0
   have p1 := xk.cell 1
   have p2 := xk.cell 2
   have p3 := xk.cell 3
   have p4 := xk.cell 4
   by_cases hlt : k < nA
   ·have hkl : k < al.length := by rw [HNA.out]; exact hlt
    obtain ⟨bb, off, hAe, hT, hbl, hcl⟩ := HR.out (by rw [cA_len]; omega)
    obtain ⟨c0, c1, c2⟩ := RC.a3 hcl k hkl
    have hsa := HSM.out _ (List.getElem_mem hkl)
    have HTK := hid (attrsP_take hkl)
    have hLk := attrsP_le al (k + 1)
    have hLk1 := attrsP_le al k
    obtain ⟨a, ha⟩ : ∃ a, al[k] = a := ⟨_, rfl⟩
    rw [ha] at c0 c1 c2 hsa HTK
    have y0 := HSK.out.cell (p := ⟨bb, off + k * 3, none⟩) hbl c0
    have y1 := HSK.out.cell (p := ⟨bb, off + k * 3 + 1, none⟩) hbl c1
    have y2 := HSK.out.cell (p := ⟨bb, off + k * 3 + 2, none⟩) hbl c2
    subst hAe
    obtain ⟨⟨asp, anm, avl⟩, rfl⟩ : ∃ x : XA, a = x := ⟨_, rfl⟩
    simp only at y0 y1 y2 hsa HTK
    have HSB := hid (HSK.out.call (below_alloc8 wr (.cells #[sV asp, sV anm, sV avl] TA3 (0, 0))))
    clear c0 c1 c2 hcl ha xk
    have hLx : ((((acc ++ [60]) ++ nm) ++ P2) ++ attrsP (al.take k)).length ≤ 700000000 := by simp only [List.length_append, List.length_cons, List.length_nil]; omega
    have HWA := hid (writeAttr_any HSB.out anm avl (by omega) (by omega) (by omega) HM.out)
    unfold BWr at HWA
    clear hLx
    go_wp2_with (go_at_call 69; (with_reducible refine HWA.out.mono ?_); rintro e w6 ⟨rfl, s6⟩; have HS6 := hid s6; clear s6)
    go_roundw
    case rel => exact ⟨k + 1, by omega, by go_num, hid (by rw [HTK.out, ← List.append_assoc]; exact HS6.out)⟩
    case measure => simp [RowKit.intOf]; omega
   ·obtain rfl : nA = k := by omega
    have htk : al.take nA = al := List.take_of_length_le (by rw [HNA.out]; exact Nat.le_refl _)
    rw [htk] at HSK
    clear htk hlt xk hk
    obtain ⟨P3, hP3⟩ : ∃ p, attrsP al = p := ⟨_, rfl⟩
    rw [hP3] at HA1 HSK hA2 HOUT
    clear hP3
    by_cases hk0 : nK = 0
    ·subst hk0
     rw [if_pos rfl] at HA1 HOUT
     go_wp2_with fail
     refine (wS8 HSK.out [47, 62] (by simp only [List.length_append, List.length_cons, List.length_nil]; omega)).mono ?_
     rintro e w7 ⟨⟨z7, rfl⟩, s7⟩
     have HS7 := hid (HSW.out.comp s7)
     clear s7
     go_wp2
     first | go_end0 | refine bodyPost_ret (results_none rfl _ _ _) rfl ?_
     exact ⟨rfl, by rw [HOUT.out]; have := HS7.out; simpa [List.append_assoc] using this⟩
    ·have hk0b : ((nK : Int) == 0) = false := by rw [beq_eq_false_iff_ne]; omega
     have hk0c : ¬ ((nK : Int) = 0) := by omega
     rw [if_neg hk0] at HA1 HOUT
     have hA3 : acc.length + 1 + nm.length + P2.length + P3.length + 1 + (printsX ks sp).length + 2 + nm.length + 1 ≤ 700000000 := by
      have := HA1.out
      simp only [List.length_append, List.length_cons, List.length_nil] at this
      omega
     go_wp2_with fail
     refine (wB8 HSK.out 62 62 rfl (by simp only [List.length_append, List.length_cons, List.length_nil]; omega)).mono ?_
     rintro e w8 ⟨rfl, s8⟩
     have HS8 := hid s8
     have x8 := s8.blk HX.out HXb.out (by decide)
     have q0 := x8.cell 0
     have q1 := x8.cell 1
     have q2 := x8.cell 2
     have q3 := x8.cell 3
     have q4 := x8.cell 4
     clear s8 x8
     go_wp2
     go_loopw [56] (fun i wr => ∃ k : Nat, k ≤ nK ∧ i = .int .i64 k ∧ Hid (BSt w0 b ((((((acc ++ [60]) ++ nm) ++ P2) ++ P3) ++ [62]) ++ printsX (ks.take k) sp) (W.alloc (.cells #[sV sp, sV nm, .slice aA nA ac, .slice kA nK kc, sV tx] TNo)) wr)) (fun i _ => nK - (RowKit.intOf i).toNat)
     case atStart => exact ⟨0, Nat.zero_le _, rfl, hid (by rw [List.take_zero, printsX, List.append_nil]; exact HS8.out)⟩
     case round =>
      clear HS8 q0 q1 q2 q3 q4
      obtain ⟨j, hj, rfl, HSJ⟩ := hrel
      have xj := HSJ.out.blk HX.out HXb.out (by decide)
      have q0 := xj.cell 0
      have q1 := xj.cell 1
      have q2 := xj.cell 2
      have q3 := xj.cell 3
      have q4 := xj.cell 4
      by_cases hjt : j < nK
      ·have hjl : j < ks.length := by rw [HNK.out]; exact hjt
       obtain ⟨bb, off, hAe, hT, hbl, hll⟩ := HK.out (by omega)
       obtain ⟨kaA, kac, kkA, kkc, c0, c1, c2, c3, c4, hxk⟩ := XRl.cells hll j hjl
       have HTK := hid (printsX_take sp hjl)
       have hLk := printsX_le (l := ks) sp (j + 1)
       have hwm := wXs_mem (List.getElem_mem hjl)
       have hwk := HWK.out
       obtain ⟨kid, hkid⟩ : ∃ a, ks[j] = a := ⟨_, rfl⟩
       rw [hkid] at c0 c1 c2 c3 c4 hxk HTK hwm
       have y0 := HSJ.out.cell (p := ⟨bb, off + j * 5, none⟩) hbl c0
       have y1 := HSJ.out.cell (p := ⟨bb, off + j * 5 + 1, none⟩) hbl c1
       have y2 := HSJ.out.cell (p := ⟨bb, off + j * 5 + 2, none⟩) hbl c2
       have y3 := HSJ.out.cell (p := ⟨bb, off + j * 5 + 3, none⟩) hbl c3
       have y4 := HSJ.out.cell (p := ⟨bb, off + j * 5 + 4, none⟩) hbl c4
       subst hAe
       have HSB := hid (HSJ.out.call (below_alloc8 wr (.cells #[sV kid.space, sV kid.name, .slice kaA kid.attrs.length kac, .slice kkA kid.kids.length kkc, sV kid.text] TNo)))
       have xb := HSB.out.blk HX.out HXb.out (by decide)
       have u0 := xb.cell 0
       have hLs : (printsX (ks.take (j + 1)) sp).length = (printsX (ks.take j) sp).length + (printX kid sp).length := by rw [HTK.out, List.length_append]
       have hLx : ((((((acc ++ [60]) ++ nm) ++ P2) ++ P3) ++ [62]) ++ printsX (ks.take j) sp).length + (printX kid sp).length ≤ 700000000 := by simp only [List.length_append, List.length_cons, List.length_nil]; omega
       have HWR := hid (HIH.out T kid _ w0 _ b _ sp (by omega) (by omega) hxk HSB.out.here hLx HM.out)
       unfold BWr at HWR
       clear c0 c1 c2 c3 c4 hll hkid xj xb hLs hLx hxk hwm hwk
       go_wp2_with (go_at_call 37; (with_reducible refine HWR.out.mono ?_); rintro e w9 ⟨rfl, s9⟩; have HS9 := hid (HSB.out.comp s9); clear s9)
       go_roundw
       case rel => exact ⟨j + 1, by omega, by go_num, hid (by rw [HTK.out, ← List.append_assoc]; exact HS9.out)⟩
       case measure => simp [RowKit.intOf]; omega
      ·obtain rfl : nK = j := by omega
       have htk : ks.take nK = ks := List.take_of_length_le (by rw [HNK.out]; exact Nat.le_refl _)
       rw [htk] at HSJ
       clear htk hjt xj
       obtain ⟨P4, hP4⟩ : ∃ p, printsX ks sp = p := ⟨_, rfl⟩
       rw [hP4] at HSJ hA3 HOUT
       clear hP4 HA1
       go_wp2_with fail
       refine (wS8 HSJ.out [60, 47] (by simp only [List.length_append, List.length_cons, List.length_nil]; omega)).mono ?_
       rintro e w10 ⟨⟨z10, rfl⟩, s10⟩
       have HS10 := hid s10
       have x10 := s10.blk HX.out HXb.out (by decide)
       clear q0 q1 q2 q3 q4
       have q1 := x10.cell 1
       clear s10 x10
       go_wp2_with fail
       refine (wS8 HS10.out nm (by simp only [List.length_append, List.length_cons, List.length_nil]; omega)).mono ?_
       rintro e w11 ⟨⟨z11, rfl⟩, s11⟩
       have HS11 := hid s11
       clear s11
       go_wp2_with fail
       refine (wB8 HS11.out 62 62 rfl (by simp only [List.length_append, List.length_cons, List.length_nil]; omega)).mono ?_
       rintro e w12 ⟨rfl, s12⟩
       have HS12 := hid (HSW.out.comp s12)
       clear s12
       go_wp2
       first | go_end0 | refine bodyPost_ret (results_none rfl _ _ _) rfl ?_
       exact ⟨rfl, by rw [HOUT.out]; have := HS12.out; simpa [List.append_assoc] using this⟩
 ·have hp2 : P2 = attrP xmlnsW sp := by rw [← HP2.out, if_neg hsa]
  have hsq : ((bs sp).toList == (bs ar).toList) = false := by rw [eqS8]; exact beq_false_of_ne hsa
  have hsq2 : ¬ (bs sp).toList = (bs ar).toList := by rw [bs_toList, bs_toList]; exact hsa
  have HWA := hid (writeAttr_any HS3.out xmlnsW sp (by decide) (by omega) (by simp only [List.length_append, List.length_cons, List.length_nil]; omega) HM.out)
  rw [← hp2] at HWA
  unfold BWr at HWA
  clear hsa hp2
  go_wp2_with fail
  refine HWA.out.mono ?_
  rintro e w4 ⟨rfl, s4⟩
  have HS4 := hid s4
  have x4 := s4.blk HX.out HXb.out (by decide)
  clear q0 q1 q2 q3 q4
  have q0 := x4.cell 0
  have q1 := x4.cell 1
  have q2 := x4.cell 2
  have q3 := x4.cell 3
  have q4 := x4.cell 4
  clear s4 x4 HWA HS3
  go_wp2
  go_loopw [34] (fun i wr => ∃ k : Nat, k ≤ nA ∧ i = .int .i64 k ∧ Hid (BSt w0 b ((((acc ++ [60]) ++ nm) ++ P2) ++ attrsP (al.take k)) (W.alloc (.cells #[sV sp, sV nm, .slice aA nA ac, .slice kA nK kc, sV tx] TNo)) wr)) (fun i _ => nA - (RowKit.intOf i).toNat)
  case atStart => exact ⟨0, Nat.zero_le _, rfl, hid (by rw [List.take_zero]; show BSt w0 b ((((acc ++ [60]) ++ nm) ++ P2) ++ []) _ _; rw [List.append_nil]; exact HS4.out)⟩
  case round =>
   clear HS4
   obtain ⟨k, hk, rfl, HSK⟩ := hrel
   have xk := HSK.out.blk HX.out HXb.out (by decide)
   have p0 := xk.cell 0
   have p1 := xk.cell 1
   have p2 := xk.cell 2
   have p3 := xk.cell 3
   have p4 := xk.cell 4
   by_cases hlt : k < nA
   ·have hkl : k < al.length := by rw [HNA.out]; exact hlt
    obtain ⟨bb, off, hAe, hT, hbl, hcl⟩ := HR.out (by rw [cA_len]; omega)
    obtain ⟨c0, c1, c2⟩ := RC.a3 hcl k hkl
    have hsa := HSM.out _ (List.getElem_mem hkl)
    have HTK := hid (attrsP_take hkl)
    have hLk := attrsP_le al (k + 1)
    have hLk1 := attrsP_le al k
    obtain ⟨a, ha⟩ : ∃ a, al[k] = a := ⟨_, rfl⟩
    rw [ha] at c0 c1 c2 hsa HTK
    have y0 := HSK.out.cell (p := ⟨bb, off + k * 3, none⟩) hbl c0
    have y1 := HSK.out.cell (p := ⟨bb, off + k * 3 + 1, none⟩) hbl c1
    have y2 := HSK.out.cell (p := ⟨bb, off + k * 3 + 2, none⟩) hbl c2
    subst hAe
    obtain ⟨⟨asp, anm, avl⟩, rfl⟩ : ∃ x : XA, a = x := ⟨_, rfl⟩
    simp only at y0 y1 y2 hsa HTK
    have HSB := hid (HSK.out.call (below_alloc8 wr (.cells #[sV asp, sV anm, sV avl] TA3 (0, 0))))
    clear c0 c1 c2 hcl ha xk
    have hLx : ((((acc ++ [60]) ++ nm) ++ P2) ++ attrsP (al.take k)).length ≤ 700000000 := by simp only [List.length_append, List.length_cons, List.length_nil]; omega
    have HWA := hid (writeAttr_any HSB.out anm avl (by omega) (by omega) (by omega) HM.out)
    unfold BWr at HWA
    clear hLx
    go_wp2_with (go_at_call 69; (with_reducible refine HWA.out.mono ?_); rintro e w6 ⟨rfl, s6⟩; have HS6 := hid s6; clear s6)
    go_roundw
    case rel => exact ⟨k + 1, by omega, by go_num, hid (by rw [HTK.out, ← List.append_assoc]; exact HS6.out)⟩
    case measure => simp [RowKit.intOf]; omega
   ·obtain rfl : nA = k := by omega
    have htk : al.take nA = al := List.take_of_length_le (by rw [HNA.out]; exact Nat.le_refl _)
    rw [htk] at HSK
    clear htk hlt xk hk
    obtain ⟨P3, hP3⟩ : ∃ p, attrsP al = p := ⟨_, rfl⟩
    rw [hP3] at HA1 HSK hA2 HOUT
    clear hP3
    by_cases hk0 : nK = 0
    ·subst hk0
     rw [if_pos rfl] at HA1 HOUT
     go_wp2_with fail
     refine (wS8 HSK.out [47, 62] (by simp only [List.length_append, List.length_cons, List.length_nil]; omega)).mono ?_
     rintro e w7 ⟨⟨z7, rfl⟩, s7⟩
     have HS7 := hid (HSW.out.comp s7)
     clear s7
     go_wp2
     first | go_end0 | refine bodyPost_ret (results_none rfl _ _ _) rfl ?_
     exact ⟨rfl, by rw [HOUT.out]; have := HS7.out; simpa [List.append_assoc] using this⟩
    ·have hk0b : ((nK : Int) == 0) = false := by rw [beq_eq_false_iff_ne]; omega
     have hk0c : ¬ ((nK : Int) = 0) := by omega
     rw [if_neg hk0] at HA1 HOUT
     have hA3 : acc.length + 1 + nm.length + P2.length + P3.length + 1 + (printsX ks sp).length + 2 + nm.length + 1 ≤ 700000000 := by
      have := HA1.out
      simp only [List.length_append, List.length_cons, List.length_nil] at this
      omega
     go_wp2_with fail
     refine (wB8 HSK.out 62 62 rfl (by simp only [List.length_append, List.length_cons, List.length_nil]; omega)).mono ?_
     rintro e w8 ⟨rfl, s8⟩
     have HS8 := hid s8
     have x8 := s8.blk HX.out HXb.out (by decide)
     have q0 := x8.cell 0
     have q1 := x8.cell 1
     have q2 := x8.cell 2
     have q3 := x8.cell 3
     have q4 := x8.cell 4
     clear s8 x8
     go_wp2
     go_loopw [56] (fun i wr => ∃ k : Nat, k ≤ nK ∧ i = .int .i64 k ∧ Hid (BSt w0 b ((((((acc ++ [60]) ++ nm) ++ P2) ++ P3) ++ [62]) ++ printsX (ks.take k) sp) (W.alloc (.cells #[sV sp, sV nm, .slice aA nA ac, .slice kA nK kc, sV tx] TNo)) wr)) (fun i _ => nK - (RowKit.intOf i).toNat)
     case atStart => exact ⟨0, Nat.zero_le _, rfl, hid (by rw [List.take_zero, printsX, List.append_nil]; exact HS8.out)⟩
     case round =>
      clear HS8 q0 q1 q2 q3 q4
      obtain ⟨j, hj, rfl, HSJ⟩ := hrel
      have xj := HSJ.out.blk HX.out HXb.out (by decide)
      have q0 := xj.cell 0
      have q1 := xj.cell 1
      have q2 := xj.cell 2
      have q3 := xj.cell 3
      have q4 := xj.cell 4
      by_cases hjt : j < nK
      ·have hjl : j < ks.length := by rw [HNK.out]; exact hjt
       obtain ⟨bb, off, hAe, hT, hbl, hll⟩ := HK.out (by omega)
       obtain ⟨kaA, kac, kkA, kkc, c0, c1, c2, c3, c4, hxk⟩ := XRl.cells hll j hjl
       have HTK := hid (printsX_take sp hjl)
       have hLk := printsX_le (l := ks) sp (j + 1)
       have hwm := wXs_mem (List.getElem_mem hjl)
       have hwk := HWK.out
       obtain ⟨kid, hkid⟩ : ∃ a, ks[j] = a := ⟨_, rfl⟩
       rw [hkid] at c0 c1 c2 c3 c4 hxk HTK hwm
       have y0 := HSJ.out.cell (p := ⟨bb, off + j * 5, none⟩) hbl c0
       have y1 := HSJ.out.cell (p := ⟨bb, off + j * 5 + 1, none⟩) hbl c1
       have y2 := HSJ.out.cell (p := ⟨bb, off + j * 5 + 2, none⟩) hbl c2
       have y3 := HSJ.out.cell (p := ⟨bb, off + j * 5 + 3, none⟩) hbl c3
       have y4 := HSJ.out.cell (p := ⟨bb, off + j * 5 + 4, none⟩) hbl c4
       subst hAe
       have HSB := hid (HSJ.out.call (below_alloc8 wr (.cells #[sV kid.space, sV kid.name, .slice kaA kid.attrs.length kac, .slice kkA kid.kids.length kkc, sV kid.text] TNo)))
       have xb := HSB.out.blk HX.out HXb.out (by decide)
       have u0 := xb.cell 0
       have hLs : (printsX (ks.take (j + 1)) sp).length = (printsX (ks.take j) sp).length + (printX kid sp).length := by rw [HTK.out, List.length_append]
       have hLx : ((((((acc ++ [60]) ++ nm) ++ P2) ++ P3) ++ [62]) ++ printsX (ks.take j) sp).length + (printX kid sp).length ≤ 700000000 := by simp only [List.length_append, List.length_cons, List.length_nil]; omega
       have HWR := hid (HIH.out T kid _ w0 _ b _ sp (by omega) (by omega) hxk HSB.out.here hLx HM.out)
       unfold BWr at HWR
       clear c0 c1 c2 c3 c4 hll hkid xj xb hLs hLx hxk hwm hwk
       go_wp2_with (go_at_call 37; (with_reducible refine HWR.out.mono ?_); rintro e w9 ⟨rfl, s9⟩; have HS9 := hid (HSB.out.comp s9); clear s9)
       go_roundw
       case rel => exact ⟨j + 1, by omega, by go_num, hid (by rw [HTK.out, ← List.append_assoc]; exact HS9.out)⟩
       case measure => simp [RowKit.intOf]; omega
      ·obtain rfl : nK = j := by omega
       have htk : ks.take nK = ks := List.take_of_length_le (by rw [HNK.out]; exact Nat.le_refl _)
       rw [htk] at HSJ
       clear htk hjt xj
       obtain ⟨P4, hP4⟩ : ∃ p, printsX ks sp = p := ⟨_, rfl⟩
       rw [hP4] at HSJ hA3 HOUT
       clear hP4 HA1
       go_wp2_with fail
       refine (wS8 HSJ.out [60, 47] (by simp only [List.length_append, List.length_cons, List.length_nil]; omega)).mono ?_
       rintro e w10 ⟨⟨z10, rfl⟩, s10⟩
       have HS10 := hid s10
       have x10 := s10.blk HX.out HXb.out (by decide)
       clear q0 q1 q2 q3 q4
       have q1 := x10.cell 1
       clear s10 x10
       go_wp2_with fail
       refine (wS8 HS10.out nm (by simp only [List.length_append, List.length_cons, List.length_nil]; omega)).mono ?_
       rintro e w11 ⟨⟨z11, rfl⟩, s11⟩
       have HS11 := hid s11
       clear s11
       go_wp2_with fail
       refine (wB8 HS11.out 62 62 rfl (by simp only [List.length_append, List.length_cons, List.length_nil]; omega)).mono ?_
       rintro e w12 ⟨rfl, s12⟩
       have HS12 := hid (HSW.out.comp s12)
       clear s12
       go_wp2
       first | go_end0 | refine bodyPost_ret (results_none rfl _ _ _) rfl ?_
       exact ⟨rfl, by rw [HOUT.out]; have := HS12.out; simpa [List.append_assoc] using this⟩
theorem write_all : ∀ N : Nat, WriteC N
 | 0 => write_zero
 | N + 1 => fun T v x w0 W b acc ar hN hw hx S hl hm => by
  by_cases hn : v.name = []
  ·exact write_text ar hw hx S hl hn
  ·exact write_elem (write_all N) hN hw hx S hl hm hn
def prX (v : XV) : Bt := if rightX 24 v = true then printX v [] else []
def prEX (v : XV) : Int := if rightX 24 v = true then 0 else 2
theorem BSt.new (w : World) : BSt w w.heap.size [] (w.alloc (.cells #[.pointer none, .slice none 0 0] TSb)) (w.alloc (.cells #[.pointer none, .slice none 0 0] TSb)) :=
 ⟨Lib.IsBuilderF.of (Lib.fresh_isBuilder TSb TY8 w), (Below.refl _ _).alloc (Nat.le_refl _) _, Below.refl _ _, kept_below (Below.refl _ _)⟩
theorem sbStr8 {w0 W w : World} {b : Nat} {acc : Bt} (S : BSt w0 b acc W w) : Calls Tryz.prog 38 #[.pointer (some ⟨b, 0, none⟩)] w fun e w' => e = .returned (.string (bs acc)) ∧ Below w0.heap.size w w' :=
 (sbString w0.heap.size b acc w S.bld S.le).mono (fun _ _ h => ⟨h.1, h.2.2.1⟩)
set_option maxRecDepth 100000 in
set_option maxHeartbeats 2000000 in
theorem print_any8 {T : Nat → Prop} {v : XV} {x : Value} {w : World} (hx : XR w T v x) (hw : wX v ≤ 100000) (hm : ML w) :
    Calls Tryz.prog 15 #[x] w fun e w' => e = .returned (.tuple #[.string (bs (prX v)), .int .i64 (prEX v)]) ∧ Below w.heap.size w w' := by
 obtain ⟨aA, ac, kA, kc, rfl⟩ := xr_one hx
 have hB := below_alloc8 w (.cells #[sV v.space, sV v.name, .slice aA v.attrs.length ac, .slice kA v.kids.length kc, sV v.text] TNo)
 have HX := hid (Blk.new (.cells #[sV v.space, sV v.name, .slice aA v.attrs.length ac, .slice kA v.kids.length kc, sV v.text] TNo) w)
 have HB := hid hB
 have HRI := hid (right_all 24 (by decide) v _ T _ (hx.below hB) hw (hm.below hB))
 unfold BoO at HRI
 have HWR := hid (fun (w1 : World) (b1 : Below w.heap.size w w1) => write_all _ T v _ w1 _ w1.heap.size [] [] (Nat.le_refl _) hw (hx.below b1) (BSt.new w1) (by have := printX_len v []; simp only [List.length_nil]; omega) (hm.below b1))
 unfold BWr at HWR
 obtain ⟨q, hq⟩ : ∃ q, rightX 24 v = q := ⟨_, rfl⟩
 rw [hq] at HRI
 have HP : Hid (prX v = if q = true then printX v [] else []) := hid (by unfold prX; rw [hq])
 have HE : Hid (prEX v = if q = true then 0 else 2) := hid (by unfold prEX; rw [hq])
 obtain ⟨P, hP⟩ : ∃ p, prX v = p := ⟨_, rfl⟩
 obtain ⟨E, hE⟩ : ∃ p, prEX v = p := ⟨_, rfl⟩
 rw [hP] at HP
 rw [hE] at HE
 rw [hP, hE]
 obtain ⟨nA, hnA⟩ : ∃ n, v.attrs.length = n := ⟨_, rfl⟩
 obtain ⟨nK, hnK⟩ : ∃ n, v.kids.length = n := ⟨_, rfl⟩
 rw [hnA, hnK] at HX HB HRI HWR
 rw [hnA, hnK]
 clear hx hm hw hB hP hE hq hnA hnK
 cases q with
 | false =>
  have h1 : P = [] := HP.out
  have h2 : E = 2 := HE.out
  subst h1 h2
  go_enter Tryz.func15, Tryz.ntmps15
  go_wp2_with fail
  refine HRI.out.mono ?_
  rintro e w1 ⟨rfl, b1⟩
  go_wp2
  go_ret2
  exact ⟨rfl, HB.out.trans (b1.mono HB.out.size)⟩
 | true =>
  have h1 : printX v [] = P := HP.out.symm
  have h2 : E = 0 := HE.out
  rw [h1] at HWR
  subst h2
  clear h1 HP HE
  go_enter Tryz.func15, Tryz.ntmps15
  go_wp2_with fail
  refine HRI.out.mono ?_
  rintro e w1 ⟨rfl, b1⟩
  have x1 := (Off.of_below b1).blk HX.out (fun h => h)
  have hb1 : Below w.heap.size w w1 := HB.out.trans (b1.mono HB.out.size)
  have HB1 := hid hb1
  have x2 := (Off.of_below (below_alloc8 w1 (.cells #[.pointer none, .slice none 0 0] TSb (0, 0)))).blk x1 (fun h => h)
  have q0 := x2.cell 0
  have q1 := x2.cell 1
  have q2 := x2.cell 2
  have q3 := x2.cell 3
  have q4 := x2.cell 4
  have HW1 := hid (HWR.out w1 hb1)
  clear x1 x2 b1 hb1 HWR
  go_wp2_with fail
  refine HW1.out.mono ?_
  rintro e w2 ⟨rfl, s2⟩
  have HS2 := hid s2
  clear s2
  go_wp2_with fail
  refine (sbStr8 HS2.out).mono ?_
  rintro e w3 ⟨rfl, b3⟩
  have HB3 := hid b3
  clear b3
  go_wp2
  go_ret2
  exact ⟨rfl, HB1.out.trans ((HS2.out.since.trans HB3.out).mono HB1.out.size)⟩
mutual
/-- All texts in a node. -/
def innerX : XV → Bt
 | .mk _ nm _ ks tx => if nm = [] then tx else innersX ks
def innersX : List XV → Bt
 | [] => []
 | v :: l => innerX v ++ innersX l
end
theorem innerX_text {v : XV} (h : v.name = []) : innerX v = v.text := by
 obtain ⟨sp, nm, al, ks, tx⟩ := v
 have h' : nm = [] := h
 rw [innerX, if_pos h']
 rfl
theorem innerX_elem {v : XV} (h : v.name ≠ []) : innerX v = innersX v.kids := by
 obtain ⟨sp, nm, al, ks, tx⟩ := v
 have h' : ¬ nm = [] := h
 rw [innerX, if_neg h']
 rfl
theorem innersX_append : ∀ (a b : List XV), innersX (a ++ b) = innersX a ++ innersX b
 | [], b => by rw [List.nil_append, innersX, List.nil_append]
 | v :: a, b => by rw [List.cons_append, innersX, innersX, innersX_append a b, List.append_assoc]
theorem innersX_take {l : List XV} {k : Nat} (h : k < l.length) : innersX (l.take (k + 1)) = innersX (l.take k) ++ innerX l[k] := by
 rw [List.take_succ_eq_append_getElem h, innersX_append, innersX, innersX, List.append_nil]
theorem innersX_le (l : List XV) (k : Nat) : (innersX (l.take k)).length ≤ (innersX l).length := by
 have : (innersX l).length = (innersX (l.take k)).length + (innersX (l.drop k)).length := by
  rw [← List.length_append, ← innersX_append, List.take_append_drop]
 omega
mutual
theorem innerX_len : ∀ v : XV, (innerX v).length ≤ wX v
 | .mk sp nm al ks tx => by
  have h1 := innersX_len ks
  have hw := wX_eq (.mk sp nm al ks tx)
  simp only [XV.space, XV.name, XV.text, XV.attrs, XV.kids] at hw
  rw [innerX]
  split <;> omega
theorem innersX_len : ∀ l : List XV, (innersX l).length ≤ wXs l
 | [] => Nat.zero_le _
 | v :: l => by
  have h1 := innerX_len v
  have h2 := innersX_len l
  rw [innersX, wXs, List.length_append]
  omega
end
def InnC (N : Nat) : Prop := ∀ (T : Nat → Prop) (v : XV) (x : Value) (w0 W : World) (b : Nat) (acc : Bt), wX v ≤ N → XR w0 T v x → BSt w0 b acc W W → acc.length + wX v ≤ 700000000 →
 Calls Tryz.prog 46 #[.pointer (some ⟨b, 0, none⟩), x] W (BWr w0 b (acc ++ innerX v) W)
set_option maxRecDepth 100000 in
set_option maxHeartbeats 8000000 in
theorem inn_text {T : Nat → Prop} {v : XV} {x : Value} {w0 W : World} {b : Nat} {acc : Bt} (hx : XR w0 T v x) (S : BSt w0 b acc W W) (hl : acc.length + wX v ≤ 700000000) (hn : v.name = []) :
    Calls Tryz.prog 46 #[.pointer (some ⟨b, 0, none⟩), x] W (BWr w0 b (acc ++ innerX v) W) := by
 have HT := hid (fun V => isText_any (w := V) hx)
 obtain ⟨aA, ac, kA, kc, rfl⟩ := xr_one hx
 have hB := below_alloc8 W (.cells #[sV v.space, sV v.name, .slice aA v.attrs.length ac, .slice kA v.kids.length kc, sV v.text] TNo)
 have HX := hid (Blk.new (.cells #[sV v.space, sV v.name, .slice aA v.attrs.length ac, .slice kA v.kids.length kc, sV v.text] TNo) W)
 have HSW := hid (S.call hB)
 have HXb : Hid (W.heap.size ≠ b) := hid (by have := S.lt; omega)
 have hnb : (v.name == []) = true := by rw [hn]; rfl
 rw [hnb] at HT
 unfold BoO at HT
 obtain ⟨t1, t2, t3, t4, t5, t6⟩ := wX_text v
 rw [innerX_text hn]
 have hl2 : acc.length + v.text.length ≤ 700000000 := by omega
 obtain ⟨nA, hnA⟩ : ∃ n, v.attrs.length = n := ⟨_, rfl⟩
 obtain ⟨nK, hnK⟩ : ∃ n, v.kids.length = n := ⟨_, rfl⟩
 obtain ⟨tx, htx⟩ : ∃ n, v.text = n := ⟨_, rfl⟩
 rw [hnA, hnK, htx] at HX HSW HT
 rw [htx] at hl2
 rw [hnA, hnK, htx]
 clear hx S hB hn hnb t1 t2 t3 t4 t5 t6 hl hnA hnK htx
 go_enter Tryz.func46, Tryz.ntmps46
 go_wp2_with fail
 refine (HT.out _).mono ?_
 rintro e w1 ⟨rfl, b1⟩
 have HS1 := hid (HSW.out.here.call b1)
 have x1 := HS1.out.blk HX.out HXb.out (by decide)
 have q4 := x1.cell 4
 clear b1 x1
 go_wp2_with fail
 refine (wS8 HS1.out tx (by omega)).mono ?_
 rintro e w3 ⟨⟨z3, rfl⟩, s3⟩
 have HS3 := hid (HSW.out.comp s3)
 clear s3
 go_wp2
 first | go_end0 | refine bodyPost_ret (results_none rfl _ _ _) rfl ?_
 exact ⟨rfl, HS3.out⟩
set_option maxRecDepth 100000 in
set_option maxHeartbeats 8000000 in
theorem inn_elem {N : Nat} (IH : InnC N) {T : Nat → Prop} {v : XV} {x : Value} {w0 W : World} {b : Nat} {acc : Bt} (hN : wX v ≤ N + 1) (hx : XR w0 T v x) (S : BSt w0 b acc W W) (hl : acc.length + wX v ≤ 700000000) (hn : v.name ≠ []) :
    Calls Tryz.prog 46 #[.pointer (some ⟨b, 0, none⟩), x] W (BWr w0 b (acc ++ innerX v) W) := by
 have HT := hid (fun V => isText_any (w := V) hx)
 have hat : ∃ aA ac kA kc, x = .agg #[sV v.space, sV v.name, .slice aA v.attrs.length ac, .slice kA v.kids.length kc, sV v.text] ∧ RC w0 T aA (cA v.attrs) ∧ RN8 w0 T kA v.kids := by
  obtain ⟨sp, nm, al, ks, tx⟩ := v
  exact XR.attrs hx
 obtain ⟨aA, ac, kA, kc, rfl, _, hK⟩ := hat
 have hB := below_alloc8 W (.cells #[sV v.space, sV v.name, .slice aA v.attrs.length ac, .slice kA v.kids.length kc, sV v.text] TNo)
 have HX := hid (Blk.new (.cells #[sV v.space, sV v.name, .slice aA v.attrs.length ac, .slice kA v.kids.length kc, sV v.text] TNo) W)
 have HSW := hid (S.call hB)
 have HXb : Hid (W.heap.size ≠ b) := hid (by have := S.lt; omega)
 have hnb : (v.name == []) = false := beq_false_of_ne hn
 rw [hnb] at HT
 unfold BoO at HT
 obtain ⟨t1, t2, t3, t4, t5, t6⟩ := wX_text v
 have hwe := wX_eq v
 have hlk := wXs_len v.kids
 rw [innerX_elem hn]
 have HK := hid hK
 have HIH := hid IH
 obtain ⟨nA, hnA⟩ : ∃ n, v.attrs.length = n := ⟨_, rfl⟩
 obtain ⟨ks, hks⟩ : ∃ n, v.kids = n := ⟨_, rfl⟩
 rw [hnA, hks] at HX HSW HT
 rw [hks] at HK t6 hwe hlk
 rw [hnA, hks]
 have HWK : Hid (wXs ks ≤ N ∧ acc.length + wXs ks ≤ 700000000) := hid ⟨by omega, by omega⟩
 obtain ⟨nK, hnK⟩ : ∃ n, ks.length = n := ⟨_, rfl⟩
 have HNK := hid hnK
 rw [hnK] at HX HSW HT
 rw [hnK]
 have hnKb : nK ≤ 700000000 := by omega
 clear hx S hB hn hnb t1 t2 t3 t4 t5 t6 hl hnA hks hnK hK IH hN hwe hlk
 go_enter Tryz.func46, Tryz.ntmps46
 go_wp2_with fail
 refine (HT.out _).mono ?_
 rintro e w1 ⟨rfl, b1⟩
 have HS1 := hid (HSW.out.here.call b1)
 have x1 := HS1.out.blk HX.out HXb.out (by decide)
 have q3 := x1.cell 3
 clear b1 x1 HT
 go_wp2
 go_loopw [15] (fun i wr => ∃ k : Nat, k ≤ nK ∧ i = .int .i64 k ∧ Hid (BSt w0 b (acc ++ innersX (ks.take k)) (W.alloc (.cells #[sV v.space, sV v.name, .slice aA nA ac, .slice kA nK kc, sV v.text] TNo)) wr)) (fun i _ => nK - (RowKit.intOf i).toNat)
 case atStart => exact ⟨0, Nat.zero_le _, rfl, hid (by rw [List.take_zero, innersX, List.append_nil]; exact HS1.out)⟩
 case round =>
  clear HS1 q3
  obtain ⟨j, hj, rfl, HSJ⟩ := hrel
  by_cases hjt : j < nK
  ·have hjl : j < ks.length := by rw [HNK.out]; exact hjt
   obtain ⟨bb, off, hAe, hT, hbl, hll⟩ := HK.out (by omega)
   obtain ⟨kaA, kac, kkA, kkc, c0, c1, c2, c3, c4, hxk⟩ := XRl.cells hll j hjl
   have HTK := hid (innersX_take hjl)
   have hLk := innersX_le ks (j + 1)
   have hLl := innersX_len ks
   have hwm := wXs_mem (List.getElem_mem hjl)
   have hwk := HWK.out
   have hin : (innersX (ks.take j)).length + wX ks[j] ≤ wXs ks := by
    have h1 := innersX_len (ks.take j)
    have h2 := wXs_append (ks.take j) (ks.drop j)
    rw [List.take_append_drop, List.drop_eq_getElem_cons hjl, wXs] at h2
    omega
   obtain ⟨kid, hkid⟩ : ∃ a, ks[j] = a := ⟨_, rfl⟩
   rw [hkid] at c0 c1 c2 c3 c4 hxk HTK hwm hin
   have y0 := HSJ.out.cell (p := ⟨bb, off + j * 5, none⟩) hbl c0
   have y1 := HSJ.out.cell (p := ⟨bb, off + j * 5 + 1, none⟩) hbl c1
   have y2 := HSJ.out.cell (p := ⟨bb, off + j * 5 + 2, none⟩) hbl c2
   have y3 := HSJ.out.cell (p := ⟨bb, off + j * 5 + 3, none⟩) hbl c3
   have y4 := HSJ.out.cell (p := ⟨bb, off + j * 5 + 4, none⟩) hbl c4
   subst hAe
   have HSB := hid (HSJ.out.call (below_alloc8 wr (.cells #[sV kid.space, sV kid.name, .slice kaA kid.attrs.length kac, .slice kkA kid.kids.length kkc, sV kid.text] TNo)))
   have hLx : (acc ++ innersX (ks.take j)).length + wX kid ≤ 700000000 := by rw [List.length_append]; omega
   have HWR := hid (HIH.out T kid _ w0 _ b _ (by omega) hxk HSB.out.here hLx)
   unfold BWr at HWR
   clear c0 c1 c2 c3 c4 hll hkid hLx hxk hwm hwk hin hLk hLl
   go_wp2_with (go_at_call 46; (with_reducible refine HWR.out.mono ?_); rintro e w9 ⟨rfl, s9⟩; have HS9 := hid (HSB.out.comp s9); clear s9)
   go_roundw
   case rel => exact ⟨j + 1, by omega, by go_num, hid (by rw [HTK.out, ← List.append_assoc]; exact HS9.out)⟩
   case measure => simp [RowKit.intOf]; omega
  ·obtain rfl : nK = j := by omega
   have htk : ks.take nK = ks := List.take_of_length_le (by rw [HNK.out]; exact Nat.le_refl _)
   rw [htk] at HSJ
   have HS7 := hid (HSW.out.comp HSJ.out)
   go_wp2
   first | go_end0 | refine bodyPost_ret (results_none rfl _ _ _) rfl ?_
   exact ⟨rfl, HS7.out⟩
theorem inn_all : ∀ N : Nat, InnC N
 | 0 => fun T v x w0 W b acc hN _ _ _ => by have := wX_eq v; omega
 | N + 1 => fun T v x w0 W b acc hN hx S hl => by
  by_cases hn : v.name = []
  ·exact inn_text hx S hl hn
  ·exact inn_elem (inn_all N) hN hx S hl hn
set_option maxRecDepth 100000 in
set_option maxHeartbeats 2000000 in
theorem inner_any {T : Nat → Prop} {v : XV} {x : Value} {w : World} (hx : XR w T v x) (hw : wX v ≤ 10000000) :
    Calls Tryz.prog 23 #[x] w fun e w' => e = .returned (.string (bs (innerX v))) ∧ Below w.heap.size w w' := by
 have HIN := hid (fun (w1 : World) (b1 : Below w.heap.size w w1) => inn_all _ T v x w1 _ w1.heap.size [] (Nat.le_refl _) (hx.below b1) (BSt.new w1) (by simp only [List.length_nil]; omega))
 unfold BWr at HIN
 obtain ⟨aA, ac, kA, kc, rfl⟩ := xr_one hx
 have hB := below_alloc8 w (.cells #[sV v.space, sV v.name, .slice aA v.attrs.length ac, .slice kA v.kids.length kc, sV v.text] TNo)
 have HB := hid hB
 have hX := Blk.new (.cells #[sV v.space, sV v.name, .slice aA v.attrs.length ac, .slice kA v.kids.length kc, sV v.text] TNo) w
 have hX2 := (Off.of_below (below_alloc8 (w.alloc (.cells #[sV v.space, sV v.name, .slice aA v.attrs.length ac, .slice kA v.kids.length kc, sV v.text] TNo)) (.cells #[.pointer none, .slice none 0 0] TSb (0, 0)))).blk hX (fun h => h)
 have q0 := hX2.cell 0
 have q1 := hX2.cell 1
 have q2 := hX2.cell 2
 have q3 := hX2.cell 3
 have q4 := hX2.cell 4
 have HW1 := hid (HIN.out _ hB)
 obtain ⟨y, hy⟩ : ∃ y, innerX v = y := ⟨_, rfl⟩
 rw [hy] at HW1 ⊢
 obtain ⟨nA, hnA⟩ : ∃ n, v.attrs.length = n := ⟨_, rfl⟩
 obtain ⟨nK, hnK⟩ : ∃ n, v.kids.length = n := ⟨_, rfl⟩
 rw [hnA, hnK] at q0 q1 q2 q3 q4 HB HW1
 rw [hnA, hnK]
 have hsz : ∀ o : Obj, (w.alloc o).heap.size = w.heap.size + 1 := fun o => by simp
 simp only [hsz] at HW1
 clear hx hw hB hX hX2 HIN hy hnA hnK
 go_enter Tryz.func23, Tryz.ntmps23
 go_wp2_with fail
 refine HW1.out.mono ?_
 rintro e w2 ⟨rfl, s2⟩
 have HS2 := hid s2
 clear s2
 have HSS := hid (sbStr8 HS2.out)
 go_wp2_with fail
 refine HSS.out.mono ?_
 rintro e w3 ⟨rfl, b3⟩
 have HB3 := hid b3
 clear b3
 go_wp2
 go_ret
 exact ⟨rfl, HB.out.trans ((HS2.out.since.trans HB3.out).mono HB.out.size)⟩
end Go.Proofs.YtklcjimmbkpbdaaGreatDoor
