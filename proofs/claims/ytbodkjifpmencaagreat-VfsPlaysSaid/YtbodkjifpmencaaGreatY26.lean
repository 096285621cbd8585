/-
  The walk of the document's keep and SyncDir, on any disk. No conditions.
-/
import Derived.Test.YtbodkjifpmencaaGreatY25
namespace Go.Proofs.YtbodkjifpmencaaGreat
open Go.RowKit
open Go.Lib

set_option maxRecDepth 100000 in
set_option maxHeartbeats 8000000 in
theorem rkeep_any {T : Nat → Prop} {X : Nat} {G : RLay} {r : R} {w : World} (H : RD T X G r w) (hT : ∀ b, T b → b < w.heap.size) (d : Bs) (n0 nc : Nat) (hn0 : n0 ≤ 1000000000) (hnc : r.changes.length = nc) (hN : r.kept.length + 2 * nc ≤ 900000) (hch : ∀ c ∈ r.changes, c.2.length ≤ 2) :
    Calls Tryz.prog 62 #[.pointer (some ⟨X, 0, none⟩), .string (bs d), .int .i64 n0] w fun e w' => e = .returned (.tuple #[]) ∧ (∃ G', RD (More T w w') X G' (keepR r d n0) w') ∧ Off (fun b => b = X) w w' := by
  obtain ⟨i0, hi, hz0, hz1, hz2⟩ := info_parts Tryz.infoChange
  obtain ⟨Ac, cc, hcv⟩ := own_len H.chg
  rw [hnc] at hcv
  have x4 : w.cell? ⟨X, 4, none⟩ = some (.slice Ac nc cc) := (H.disk.cell 4).trans (by rw [← hcv]; rfl)
  have HX := Lib.hid (hT X H.tx)
  have HT := Lib.hid hT
  have HH := Lib.hid H
  have HNC := Lib.hid hnc
  have HCH := Lib.hid hch
  have HCV := Lib.hid hcv
  clear H hT hnc hch hcv
  go_enter Tryz.func62, Tryz.ntmps62
  go_wp2
  go_loopw [2, 6, 16] (fun s2 v i wr => ∃ (kk n' : Nat), kk ≤ nc ∧ i = .int .i64 kk ∧ s2 = .int .i64 n' ∧ n' ≤ n0 ∧ (∃ vA vn vc, v = .slice vA vn vc) ∧ Hid (kpInv T X G r w d n0 kk n' v wr)) (fun _ _ i _ => nc - (RowKit.intOf i).toNat)
  case atStart => exact ⟨0, n0, Nat.zero_le _, rfl, rfl, Nat.le_refl _, ⟨_, _, _, rfl⟩, Lib.hid ⟨rfl, G.kv, [], HH.out.mono (fun _ h => .inl h), Off.refl _ _, World.ownsRow_nil _ _ _ _, ChsOk.nil _ _⟩⟩
  case round =>
    obtain ⟨kk, n', hkk, rfl, rfl, hn', ⟨vA, vn, vc, rfl⟩, hI⟩ := hrel
    by_cases hkc : kk < nc
    · have hkl0 : kk < r.changes.length := by rw [HNC.out]; exact hkc
      obtain ⟨bc, Ak, ck, hAe, hbc, c0', c1', hrc⟩ := HH.out.changeAt hkl0 HCV.out
      have hI2 := hI.out
      obtain ⟨hn1', v0, chs, hR, ho, hrow, hC⟩ := hI2
      have hbcX : bc ≠ X := ne_kind (row_kind HH.out.chg hbc) HH.out.disk.kind (show (some TCh : Option TypeId) ≠ some TDk by decide)
      have c0 := ho.cell c0' hbcX
      have c1 := ho.cell c1' hbcX
      obtain ⟨dk, hdk⟩ : ∃ x, r.changes[kk].1 = x := ⟨_, rfl⟩
      obtain ⟨l, hl⟩ : ∃ x, r.changes[kk].2 = x := ⟨_, rfl⟩
      obtain ⟨n, hn⟩ : ∃ x, l.length = x := ⟨_, rfl⟩
      rw [hdk] at c0
      rw [hl, hn] at c1
      have hn2 : n ≤ 2 := by rw [← hn, ← hl]; exact HCH.out _ (List.getElem_mem _)
      obtain ⟨hb1, hb2, hb3⟩ := keepW_bd d r.changes HCH.out n0 r.kept kk (by omega)
      rw [hn1'] at hb1
      obtain ⟨nr, hnr⟩ : ∃ x, (keepW d (r.changes.take kk) n0 r.kept).2.2.length = x := ⟨_, rfl⟩
      rw [hnr] at hb3
      have HDK := Lib.hid hdk
      have HL := Lib.hid hl
      have HN := Lib.hid hn
      have HRC := Lib.hid hrc
      have HN1 := Lib.hid hn1'
      have HR := Lib.hid hR
      have HO := Lib.hid ho
      have HROW := Lib.hid hrow
      have HC := Lib.hid hC
      have HNR := Lib.hid hnr
      have HB2 := Lib.hid hb2
      subst hAe
      have hsz := ho.size
      clear hI hn1' hR ho hrow hC hbcX c0' c1' hrc hdk hl hn hbc hb2 hnr
      obtain ⟨bb, hx⟩ : ∃ b, ((bs dk).toList == (bs d).toList) = b := ⟨_, rfl⟩
      cases bb
      · have hstay : r.changes[kk].1 ≠ d ∨ n' = 0 := .inl (fun e => by rw [← e, HDK.out, eqB_of rfl] at hx; cases hx)
        have HST := Lib.hid hstay
        have hba := (Below.refl wr.heap.size wr).alloc (Nat.le_refl _) (.cells #[.string (bs dk), .slice Ak n ck] TCh)
        have hws : (wr.alloc (.cells #[.string (bs dk), .slice Ak n ck] TCh)).heap.size = wr.heap.size + 1 := by simp
        have hba2 : Below wr.heap.size wr ((wr.alloc (.cells #[.string (bs dk), .slice Ak n ck] TCh)).alloc (.cells #[.string (bs dk), .slice Ak n ck] TCh)) := hba.alloc hba.size _
        have hnews := two_news (wr.alloc (.cells #[.string (bs dk), .slice Ak n ck] TCh)) (.string (bs dk)) (.slice Ak n ck) TCh
        rw [hws] at hnews
        have HNW := Lib.hid hnews
        have HBA := Lib.hid hba2
        have HOW := Lib.hid (own_off HROW.out (Off.of_below hba2) (fun _ _ h => h))
        rw [HNR.out] at HOW
        clear hstay hba hba2 hnews
        go_wp2_with (at_builtin; refine wpList_append_own _ rfl _ _ 63 rfl w.heap.size TCh i0 (.agg #[.string ⟨#[]⟩, .slice none 0 0]) 2 40 Tryz.underlying63 hi hz0 hz1 hz2 rfl (by decide) (.slice vA vn vc) _ _ rfl HOW.out ⟨wr.heap.size + 1, 0, none⟩ 1 1 [.string (bs dk), .slice Ak n ck] rfl rfl HNW.out (fun u hu => by simp at hu; rcases hu with rfl | rfl <;> rfl) (by unfold maxLen; omega) (by omega) (by simp; omega) ?_; intro v' w6 hown' hg6 _; obtain ⟨A6, n6, c6, rfl⟩ := own_slice hown')
        exact ⟨⟨kk + 1, n', by omega, rfl, rfl, by omega, ⟨_, _, _, rfl⟩, Lib.hid (kp_keep hkl0 HN1.out HR.out HO.out HROW.out HC.out HT.out HH.out.tc HST.out HBA.out hg6 Ak ck HRC.out (by rw [HNR.out, HDK.out, HL.out, HN.out]; exact hown'))⟩, by show nc - ((kk : Int) + 1).toNat < nc - (kk : Int).toNat; omega⟩
      · by_cases hz : n' = 0
        · subst hz
          have hstay : r.changes[kk].1 ≠ d ∨ 0 = 0 := .inr rfl
          have HST := Lib.hid hstay
          have hba := (Below.refl wr.heap.size wr).alloc (Nat.le_refl _) (.cells #[.string (bs dk), .slice Ak n ck] TCh)
          have hws : (wr.alloc (.cells #[.string (bs dk), .slice Ak n ck] TCh)).heap.size = wr.heap.size + 1 := by simp
          have hba2 : Below wr.heap.size wr ((wr.alloc (.cells #[.string (bs dk), .slice Ak n ck] TCh)).alloc (.cells #[.string (bs dk), .slice Ak n ck] TCh)) := hba.alloc hba.size _
          have hnews := two_news (wr.alloc (.cells #[.string (bs dk), .slice Ak n ck] TCh)) (.string (bs dk)) (.slice Ak n ck) TCh
          rw [hws] at hnews
          have HNW := Lib.hid hnews
          have HBA := Lib.hid hba2
          have HOW := Lib.hid (own_off HROW.out (Off.of_below hba2) (fun _ _ h => h))
          rw [HNR.out] at HOW
          clear hstay hba hba2 hnews
          go_wp2_with (at_builtin; refine wpList_append_own _ rfl _ _ 63 rfl w.heap.size TCh i0 (.agg #[.string ⟨#[]⟩, .slice none 0 0]) 2 40 Tryz.underlying63 hi hz0 hz1 hz2 rfl (by decide) (.slice vA vn vc) _ _ rfl HOW.out ⟨wr.heap.size + 1, 0, none⟩ 1 1 [.string (bs dk), .slice Ak n ck] rfl rfl HNW.out (fun u hu => by simp at hu; rcases hu with rfl | rfl <;> rfl) (by unfold maxLen; omega) (by omega) (by simp; omega) ?_; intro v' w6 hown' hg6 _; obtain ⟨A6, n6, c6, rfl⟩ := own_slice hown')
          exact ⟨⟨kk + 1, 0, by omega, rfl, rfl, by omega, ⟨_, _, _, rfl⟩, Lib.hid (kp_keep hkl0 HN1.out HR.out HO.out HROW.out HC.out HT.out HH.out.tc HST.out HBA.out hg6 Ak ck HRC.out (by rw [HNR.out, HDK.out, HL.out, HN.out]; exact hown'))⟩, by show nc - ((kk : Int) + 1).toNat < nc - (kk : Int).toNat; omega⟩
        · have hzf : (((n' : Nat) : Int) == 0) = false := by rw [beq_eq_false_iff_ne]; omega
          obtain ⟨n1, hn1⟩ : ∃ x, n' - 1 = x := ⟨_, rfl⟩
          have hwr : IntKind.i64.wrap ((n' : Int) - 1) = (n1 : Int) := (IntWalk.i64_in _ (by omega)).trans (by omega)
          have hne : ¬ (r.changes[kk].1 ≠ d ∨ n' = 0) := fun h => h.elim (fun h => h (by rw [HDK.out]; exact of_eqB hx)) hz
          have HNE := Lib.hid hne
          have hba := (Below.refl wr.heap.size wr).alloc (Nat.le_refl _) (.cells #[.string (bs dk), .slice Ak n ck] TCh)
          have HKI : Hid (kiInv T X G r w (keepW d (r.changes.take kk) n0 r.kept).2.1 (.slice vA vn vc) nr (cellsRC (keepW d (r.changes.take kk) n0 r.kept).2.2 chs) l 0 (wr.alloc (.cells #[.string (bs dk), .slice Ak n ck] TCh))) := Lib.hid ⟨v0, (HR.out.off (Off.of_below hba) (fun _ _ h => h)).mono (fun b hb => hb.mono hba.size), HO.out.trans (Off.of_below hba) (fun _ h => h.elim), by rw [← HNR.out]; exact own_off HROW.out (Off.of_below hba) (fun _ _ h => h)⟩
          have HM0 : Hid ((keepW d (r.changes.take kk) n0 r.kept).2.1.length ≤ 900000) := Lib.hid (by have := HB2.out; omega)
          obtain ⟨m0, hm0⟩ : ∃ x, (keepW d (r.changes.take kk) n0 r.kept).2.1 = x := ⟨_, rfl⟩
          rw [hm0] at HKI HM0
          have HM0E := Lib.hid hm0
          have HA : Hid (RCs w T Ak l) := Lib.hid (by rw [← HL.out]; exact HRC.out)
          have hn1b : n1 ≤ n0 := by omega
          have HN1E := Lib.hid hn1
          clear hne hba hm0 hn1
          go_wp2
          go_loopw [37] (fun i wr => ∃ k, k ≤ n ∧ i = .int .i64 k ∧ Hid (kiInv T X G r w m0 (.slice vA vn vc) nr (cellsRC (keepW d (r.changes.take kk) n0 r.kept).2.2 chs) l k wr)) (fun i _ => n - (RowKit.intOf i).toNat)
          case atStart => exact ⟨0, Nat.zero_le _, rfl, HKI⟩
          case round =>
            obtain ⟨k, hk, rfl, hI⟩ := hrel
            by_cases hlt : k < n
            · have hkl : k < l.length := by rw [HN.out]; exact hlt
              obtain ⟨v0, hR, ho, _⟩ := hI.out
              obtain ⟨b, off, hAe, _, hkind, hc⟩ := HA.out (by omega)
              have hbX : b ≠ X := ne_kind hkind HH.out.disk.kind (show (some TN : Option TypeId) ≠ some TDk by decide)
              obtain ⟨c0', c1'⟩ := hc k hkl
              have c0 := ho.cell c0' hbX
              have c1 := ho.cell c1' hbX
              obtain ⟨x, hx⟩ : ∃ x, l[k] = x := ⟨_, rfl⟩
              rw [hx] at c0 c1
              obtain ⟨F, o⟩ := x
              obtain ⟨An, cn, hn1, hn2'⟩ := rn_of_row hR.kept
              obtain ⟨z, hz⟩ : ∃ z, intO o = z := ⟨_, rfl⟩
              have HZ := Lib.hid hz
              change wr.cell? ⟨b, off + k * 2 + 1, none⟩ = some (.int .i64 (intO o)) at c1
              change wr.cell? ⟨b, off + k * 2, none⟩ = some (.string (bs F)) at c0
              rw [hz] at c1
              have hxr : X < wr.heap.size := hR.disk.lt
              have x2r : wr.cell? ⟨X, 3, none⟩ = some v0 := hR.disk.cell 3
              have hfr : ∀ W, Off (fun _ => False) wr W → W.frozen? ⟨X, 3, none⟩ = false := fun W h => (h.blk hR.disk (fun h => h)).free 3
              change v0 = _ at hn1
              rw [hn1] at x2r
              obtain ⟨m, hm⟩ : ∃ m, ((l.take k).foldl withR m0) = m := ⟨_, rfl⟩
              have hml : m.length ≤ 900000 + 2 := by rw [← hm]; refine Nat.le_trans (foldW_len _ _) ?_; rw [List.length_take]; have := HM0.out; have := HN.out; omega
              change RN wr An ((l.take k).foldl withR m0) at hn2'
              rw [hm] at hn2'
              change wr.cell? ⟨X, 3, none⟩ = some (.slice An ((l.take k).foldl withR m0).length cn) at x2r
              rw [hm] at x2r
              obtain ⟨nm, hnm⟩ : ∃ n, m.length = n := ⟨_, rfl⟩
              rw [hnm] at x2r hml
              obtain ⟨wa, hwa⟩ : ∃ W, wr.alloc (.cells #[.string (bs F), .int .i64 z] TN) = W := ⟨_, rfl⟩
              have hba : Below wr.heap.size wr wa := by rw [← hwa]; exact (Below.refl _ _).alloc (Nat.le_refl _) _
              have HOA : Hid (Off (fun _ => False) wr wa.drew) := Lib.hid ((Off.of_below hba).drew)
              have x2 : wa.cell? ⟨X, 3, none⟩ = some (.slice An nm cn) := (hba.cell (p := ⟨X, 3, none⟩) hxr).trans x2r
              have x2' : wa.drew.cell? ⟨X, 3, none⟩ = some (.slice An nm cn) := x2
              have z0 : wa.cell? ⟨wr.heap.size, 0, none⟩ = some (.string (bs F)) := by rw [← hwa]; exact (Blk.new (.cells #[.string (bs F), .int .i64 z] TN (0, 0)) wr).cell 0
              have z1 : wa.cell? ⟨wr.heap.size, 1, none⟩ = some (.int .i64 z) := by rw [← hwa]; exact (Blk.new (.cells #[.string (bs F), .int .i64 z] TN (0, 0)) wr).cell 1
              have hrn : RN wa An m := hn2'.below hba
              have HRN := Lib.hid (show RN wa.drew An m from hrn)
              have HFR := Lib.hid hfr
              have HNM := Lib.hid hnm
              have HM := Lib.hid hm
              have HXK := Lib.hid hx
              have HXR := Lib.hid hxr
              subst hAe
              clear hrn hc c0' c1' hkind hR ho hn1 hn2' hfr hnm hm hx x2r hxr hba hz
              have HWT : Hid (Calls Tryz.prog 76 #[.slice An nm cn, .agg #[.string (bs F), .int .i64 z]] wa.drew fun e w' => ∃ v, e = .returned v ∧ OwnN w' wa.drew.heap.size v (withR m (F, o)) ∧ Below wa.drew.heap.size wa.drew w') := Lib.hid (by rw [← HZ.out]; exact rwith_any m An cn F o nm HNM.out wa.drew HRN.out (by omega))
              have HXA : Hid (X < wa.drew.heap.size) := Lib.hid (Nat.lt_of_lt_of_le HXR.out HOA.out.size)
              go_upto_region 10 with fail
              go_region_with (first
                | (go_at_call 76; (with_reducible refine HWT.out.mono ?_); rintro e w5 ⟨v5, rfl, hv5, b5⟩
                   obtain ⟨A5, n5, c5, rfl⟩ := own_slice hv5
                   have y2 := (b5.cell (p := ⟨X, 3, none⟩) HXA.out).trans x2'
                   have yf := HFR.out w5 (HOA.out.trans (Off.of_below b5) (fun _ h => .inl h))))
              all_goals go_wp2
              all_goals exact ⟨⟨k + 1, by omega, rfl, Lib.hid (ki_step hkl hI.out HX.out HOA.out b5 _ (by rw [HXK.out, HM.out]; exact hv5))⟩, by show n - ((k : Int) + 1).toNat < n - (k : Int).toNat; omega⟩
            · obtain rfl : k = n := by omega
              go_wp2
              exact ⟨⟨kk + 1, n1, by omega, rfl, rfl, by omega, ⟨_, _, _, rfl⟩, Lib.hid (by rw [← HN1E.out]; exact kp_took hkl0 HN1.out HC.out HNE.out l HL.out k HN.out (by rw [HNR.out, HM0E.out]; exact hI.out))⟩, by show nc - ((kk : Int) + 1).toNat < nc - (kk : Int).toNat; omega⟩
    · obtain rfl : kk = nc := by omega
      have hI2 := hI.out
      obtain ⟨_, v0, chs, hR, ho, _, _⟩ := hI2
      have y4 : ∃ v, wr.cell? ⟨X, 4, none⟩ = some v := ⟨_, hR.disk.cell 4⟩
      obtain ⟨vv, y4⟩ := y4
      have yf := hR.disk.free 4
      clear hR ho
      go_wp2
      go_end0
      exact ⟨rfl, kp_end HNC.out HT.out HH.out hI.out⟩
set_option maxRecDepth 100000 in
set_option maxHeartbeats 4000000 in
theorem rsyncDir_any {T : Nat → Prop} {X : Nat} {G : RLay} {r : R} {w : World} (H : RD T X G r w) (hT : ∀ b, T b → b < w.heap.size) (K : ROk r) (hnc2 : r.changes.length ≤ 250000) (hN : r.kept.length ≤ 250000) (hch : ∀ c ∈ r.changes, c.2.length ≤ 2) (d : Bs) (hd : d.length ≤ 1000) :
    Calls Tryz.prog 32 #[.pointer (some ⟨X, 0, none⟩), .string (bs d)] w fun e w' => e = .returned (.int .i64 (syncDirR r d).1) ∧ Rs T X (syncDirR r d).2 w w' := by
  obtain ⟨bp, hbp⟩ : ∃ b, isPartL d = b := ⟨_, rfl⟩
  have HPA : Hid (∀ W, Calls Tryz.prog 61 #[.string (bs d)] W fun e w' => e = .returned (.bool bp) ∧ Below W.heap.size W w') := Lib.hid (fun W => by
    have := rpart_any (bs d) W (by rw [bs_size]; omega)
    rw [bs_list, hbp] at this
    exact this)
  obtain ⟨b0, hb0⟩ : ∃ b, ((bs d).toList == []) = b := ⟨_, rfl⟩
  have hb0' : (d == []) = b0 := by
    rw [← hb0, Lib.toList_data, bs_list]
  obtain ⟨b, hb⟩ : ∃ b, (d == [] || isPartL d) = b := ⟨_, rfl⟩
  obtain ⟨ev, r1, hc⟩ : ∃ e r1, callR r b = (e, r1) := ⟨_, _, rfl⟩
  have hsame := callR_same r b
  rw [hc] at hsame
  dsimp only at hsame
  have HCA : Hid (∀ W, RD T X G r W → Calls Tryz.prog 58 #[.pointer (some ⟨X, 0, none⟩), .bool b] W fun e w' => e = .returned (.int .i64 ev) ∧ RD T X G r1 w' ∧ Off (fun k => k = X) W w') := Lib.hid (fun W hW => by
    have := rcall_any hW b K.c0 K.c1
    rw [hc] at this
    exact this)
  obtain ⟨nc, hnc⟩ : ∃ n, r1.changes.length = n := ⟨_, rfl⟩
  have hnc3 : nc ≤ 250000 := by rw [← hnc, hsame.2.1]; exact hnc2
  have HNC := Lib.hid hnc
  have HKE : Hid (∀ W, Rs T X r1 w W → Calls Tryz.prog 62 #[.pointer (some ⟨X, 0, none⟩), .string (bs d), .int .i64 nc] W fun e w' => e = .returned (.tuple #[]) ∧ Rs T X (keepR r1 d nc) w w') := Lib.hid (fun W hW => by
    obtain ⟨⟨G4, hG4⟩, o4⟩ := id hW
    refine (rkeep_any hG4 (more_lt hT o4.size) d nc nc (by omega) hnc (by rw [hsame.2.2.2.1]; omega) (by rw [hsame.2.1]; exact hch)).mono ?_
    rintro e w' ⟨rfl, ⟨G', hG'⟩, ho⟩
    exact ⟨rfl, Rs.more hW hG' (fun b hb => by rw [hb]; exact hG4.tx) ho⟩)
  have HH := Lib.hid H
  by_cases he : ev = 0
  · subst he
    have hq : syncDirR r d = (0, keepR r1 d nc) := by unfold syncDirR; rw [hb, hc]; dsimp only; rw [if_pos rfl, hnc]
    rw [hq]
    cases b0
    · have hbb : bp = b := by rw [← hb, hb0', hbp]; rfl
      subst hbb
      clear H hT K hb hc hsame hnc hb0' hbp
      go_enter Tryz.func32, Tryz.ntmps32
      go_wp2_with (first
        | (go_at_call 61; (with_reducible refine (HPA.out _).mono ?_); rintro e w1 ⟨rfl, b1⟩)
        | (go_at_call 58; (with_reducible refine (HCA.out _ (HH.out.off (Off.of_below b1) (fun _ _ h => h))).mono ?_); rintro e w2 ⟨rfl, hR2, o2⟩
           obtain ⟨An, cn, hn1⟩ := own_len hR2.chg
           have c4 : w2.cell? ⟨X, 4, none⟩ = some (.slice An nc cn) := (hR2.disk.cell 4).trans (by rw [← HNC.out, ← hn1]; rfl)
           have hs2 := Rs.call (F := fun k => k = X) ((Rs.refl HH.out).below b1) (hR2.mono (fun _ h => .inl h)) (fun x hx => .inl (by rw [hx]; exact HH.out.tx)) o2)
        | (go_at_call 62; (with_reducible refine (HKE.out _ hs2).mono ?_); rintro e w6 ⟨rfl, hs6⟩))
      go_ret
      exact ⟨rfl, hs6⟩
    · have hbb : b = true := by rw [← hb, hb0']; rfl
      subst hbb
      clear H hT K hb hc hsame hnc hb0' hbp
      go_enter Tryz.func32, Tryz.ntmps32
      go_wp2_with (first
        | (go_at_call 58; (with_reducible refine (HCA.out _ (HH.out)).mono ?_); rintro e w2 ⟨rfl, hR2, o2⟩
           obtain ⟨An, cn, hn1⟩ := own_len hR2.chg
           have c4 : w2.cell? ⟨X, 4, none⟩ = some (.slice An nc cn) := (hR2.disk.cell 4).trans (by rw [← HNC.out, ← hn1]; rfl)
           have hs2 := Rs.call (F := fun k => k = X) (Rs.refl HH.out) (hR2.mono (fun _ h => .inl h)) (fun x hx => .inl (by rw [hx]; exact HH.out.tx)) o2)
        | (go_at_call 62; (with_reducible refine (HKE.out _ hs2).mono ?_); rintro e w6 ⟨rfl, hs6⟩))
      go_ret
      exact ⟨rfl, hs6⟩
  · have hq : syncDirR r d = (ev, r1) := by unfold syncDirR; rw [hb, hc]; dsimp only; rw [if_neg he]
    rw [hq]
    have he2 : (ev == 0) = false := by rw [beq_eq_false_iff_ne]; exact he
    cases b0
    · have hbb : bp = b := by rw [← hb, hb0', hbp]; rfl
      subst hbb
      clear H hT K hb hc hsame hnc hb0' hbp
      go_enter Tryz.func32, Tryz.ntmps32
      go_wp2_with (first
        | (go_at_call 61; (with_reducible refine (HPA.out _).mono ?_); rintro e w1 ⟨rfl, b1⟩)
        | (go_at_call 58; (with_reducible refine (HCA.out _ (HH.out.off (Off.of_below b1) (fun _ _ h => h))).mono ?_); rintro e w2 ⟨rfl, hR2, o2⟩
           obtain ⟨An, cn, hn1⟩ := own_len hR2.chg
           have c4 : w2.cell? ⟨X, 4, none⟩ = some (.slice An nc cn) := (hR2.disk.cell 4).trans (by rw [← HNC.out, ← hn1]; rfl)
           have hs2 := Rs.call (F := fun k => k = X) ((Rs.refl HH.out).below b1) (hR2.mono (fun _ h => .inl h)) (fun x hx => .inl (by rw [hx]; exact HH.out.tx)) o2)
        | (go_at_call 62; (with_reducible refine (HKE.out _ hs2).mono ?_); rintro e w6 ⟨rfl, hs6⟩))
      go_ret
      exact ⟨rfl, hs2⟩
    · have hbb : b = true := by rw [← hb, hb0']; rfl
      subst hbb
      clear H hT K hb hc hsame hnc hb0' hbp
      go_enter Tryz.func32, Tryz.ntmps32
      go_wp2_with (first
        | (go_at_call 58; (with_reducible refine (HCA.out _ (HH.out)).mono ?_); rintro e w2 ⟨rfl, hR2, o2⟩
           obtain ⟨An, cn, hn1⟩ := own_len hR2.chg
           have c4 : w2.cell? ⟨X, 4, none⟩ = some (.slice An nc cn) := (hR2.disk.cell 4).trans (by rw [← HNC.out, ← hn1]; rfl)
           have hs2 := Rs.call (F := fun k => k = X) (Rs.refl HH.out) (hR2.mono (fun _ h => .inl h)) (fun x hx => .inl (by rw [hx]; exact HH.out.tx)) o2)
        | (go_at_call 62; (with_reducible refine (HKE.out _ hs2).mono ?_); rintro e w6 ⟨rfl, hs6⟩))
      go_ret
      exact ⟨rfl, hs2⟩
end Go.Proofs.YtbodkjifpmencaaGreat
