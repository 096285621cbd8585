/-
  The program's Get and Text of values of JSON. Conditions: values of modest size.
-/
import Derived.Test.YtchgelfomnbpaaaDoorZ30
import Derived.Test.YtchgelfomnbpaaaDoorZ31
namespace Go.Proofs.YtchgelfomnbpaaaDoor
open Go.RowKit
open Go.Lib

abbrev zeroV : JV := .mk 0 [] [] []
/-- The member of a name. -/
def getI (v : JV) (nm : Bt) : Int := lastJ v.kind v.names v.list.length nm
def getV (v : JV) (nm : Bt) : JV := if 0 ≤ getI v nm then v.list.getD (getI v nm).toNat zeroV else zeroV
def getB (v : JV) (nm : Bt) : Bool := decide (0 ≤ getI v nm)
def textV (m : JV) : Bt := if m.kind = 3 ∨ m.kind = 4 then m.text else []
theorem getI_lo (k : Int) (_t : Bt) (ns : List Bt) (l : List JV) (nm : Bt) : -1 ≤ lastJ k ns l.length nm ∧ lastJ k ns l.length nm < l.length := by
  unfold lastJ
  split
  · have := lastN_lo ns nm (min ns.length l.length)
    omega
  · omega
def GetO (v : JV) (b : Bool) (w : World) (e : Ending) (w' : World) : Prop := (∃ x0 x1 x2 x3, e = .returned (.tuple #[.agg #[x0, x1, x2, x3], .bool b]) ∧ One4 x0 x1 x2 x3 ∧ JR w' (fun b => w.heap.size ≤ b ∧ b < w'.heap.size) v (.agg #[x0, x1, x2, x3])) ∧ Below w.heap.size w w'
set_option maxRecDepth 100000 in
set_option maxHeartbeats 2000000 in
theorem get_any {T : Nat → Prop} {v : JV} {x : Value} {w : World} (nm : Bt) (hJ : JR w T v x) (hW : wJ v ≤ 1000000) :
    Calls Tryd.prog 19 #[x, .string (bs nm)] w (GetO (getV v nm) (getB v nm) w) := by
  obtain ⟨k, t, ns, l⟩ := v
  have hJ2 := hJ
  rw [JR] at hJ
  obtain ⟨nA, nc, lA, lc, rfl, _, hL⟩ := hJ
  rw [wJ] at hW
  have hnsl := nsW_len ns
  have hwl := wsJ_len l
  have hlo := getI_lo k t ns l nm
  have HLA := Lib.hid (fun (W : World) (hW : Below w.heap.size w W) => plast_any nm (hJ2.below hW) (by omega) (by omega))
  have HGV : Hid (getV (.mk k t ns l) nm = if 0 ≤ lastJ k ns l.length nm then l.getD (lastJ k ns l.length nm).toNat zeroV else zeroV) := Lib.hid rfl
  have HGB : Hid (getB (.mk k t ns l) nm = decide (0 ≤ lastJ k ns l.length nm)) := Lib.hid rfl
  obtain ⟨i, hi⟩ : ∃ i, lastJ k ns l.length nm = i := ⟨_, rfl⟩
  rw [hi] at HLA HGV HGB hlo
  obtain ⟨G, hG⟩ : ∃ g, getV (.mk k t ns l) nm = g := ⟨_, rfl⟩
  obtain ⟨b, hb⟩ : ∃ g, getB (.mk k t ns l) nm = g := ⟨_, rfl⟩
  rw [hG] at HGV ⊢
  rw [hb] at HGB ⊢
  have HL := Lib.hid hL
  have HWL : Hid (wsJ l ≤ 1000000) := Lib.hid (by omega)
  clear hJ2 hL hG hb hi hW hnsl
  obtain ⟨nn, hnn⟩ : ∃ n, ns.length = n := ⟨_, rfl⟩
  obtain ⟨n, hn⟩ : ∃ n, l.length = n := ⟨_, rfl⟩
  rw [hnn, hn] at HLA ⊢
  have HN := Lib.hid hn
  have HLO : Hid (-1 ≤ i ∧ i < n ∧ n ≤ 1000000) := Lib.hid (by have := HWL.out; omega)
  clear hnn hn hlo hwl
  obtain ⟨N, hN⟩ : ∃ s, bs nm = s := ⟨_, rfl⟩
  rw [hN] at HLA ⊢
  clear hN
  obtain ⟨W1, hW1⟩ : ∃ W, (w.alloc (.cells #[.int .i64 k, .string (bs t), .slice nA nn nc, .slice lA n lc] TJ)).alloc (.cells #[.int .i64 0, .string ⟨#[]⟩, .slice none 0 0, .slice none 0 0] TJ) = W := ⟨_, rfl⟩
  have hbx : J4 w.heap.size (.int .i64 k) (.string (bs t)) (.slice nA nn nc) (.slice lA n lc) W1 := by
    rw [← hW1]
    exact (Off.of_below ((Below.refl _ _).alloc (Nat.le_refl _) _)).blk (Blk.new _ w) (fun h => h)
  have hR : JZ (w.heap.size + 1) W1 := by
    have := Blk.new (.cells #[.int .i64 0, .string ⟨#[]⟩, .slice none 0 0, .slice none 0 0] TJ (0, 0)) (w.alloc (.cells #[.int .i64 k, .string (bs t), .slice nA nn nc, .slice lA n lc] TJ))
    rw [hW1] at this
    unfold JZ J4
    simpa using this
  have hB1 : Below w.heap.size w W1 := by
    rw [← hW1]
    exact ((Below.refl _ _).alloc (Nat.le_refl _) _).alloc (by simp) _
  have HBX := Lib.hid hbx
  have HR := Lib.hid hR
  have HB1 := Lib.hid hB1
  have HC := Lib.hid (HLA.out W1 hB1)
  clear hbx hR hB1 HLA
  subst hW1
  go_enter Tryd.func19, Tryd.ntmps19
  go_wp2_with fail
  refine HC.out.mono ?_
  clear HC
  generalize (w.alloc (.cells #[.int .i64 k, .string (bs t), .slice nA nn nc, .slice lA n lc] TJ)).alloc (.cells #[.int .i64 0, .string ⟨#[]⟩, .slice none 0 0, .slice none 0 0] TJ) = W1 at *
  rintro e w2 ⟨rfl, b2⟩
  have hR2 := HR.out.below b2
  have hbx2 := HBX.out.below b2
  have B2 := HB1.out.trans (b2.mono HB1.out.size)
  have HB2 := Lib.hid B2
  by_cases h0 : 0 ≤ i
  · obtain ⟨j, rfl⟩ := Int.eq_ofNat_of_zero_le h0
    have hjl : j < l.length := by have := HLO.out; have := HN.out; omega
    obtain ⟨bl, off, rfl, _, hbw, hJl⟩ := HL.out (by omega)
    obtain ⟨x0, x1, x2, x3, c0, c1, c2, c3, hJ⟩ := hJl.at j hjl
    obtain ⟨k', s', nA', nn', nc', lA', ln', lc', rfl, rfl, rfl, rfl⟩ := jr_form hJ
    have y0 := (B2.cell (p := ⟨bl, off + j * 4, none⟩) hbw).trans c0
    have y1 := (B2.cell (p := ⟨bl, off + j * 4 + 1, none⟩) hbw).trans c1
    have y2 := (B2.cell (p := ⟨bl, off + j * 4 + 2, none⟩) hbw).trans c2
    have y3 := (B2.cell (p := ⟨bl, off + j * 4 + 3, none⟩) hbw).trans c3
    have e3 := hbx2.c3
    have hjn : (j : Int) < (n : Int) := HLO.out.2.1
    have HE : Hid (G = l[j] ∧ b = true) := Lib.hid ⟨by rw [HGV.out, if_pos h0]; simp [List.getD, hjl], by rw [HGB.out, decide_eq_true h0]⟩
    have HCL := Lib.hid (clone_all 1000000 (Nat.le_refl _) T l[j] _ w2 (by have := wsJ_at l j hjl; have := HWL.out; omega) (hJ.below B2))
    have HR2 := Lib.hid hR2
    clear hJl hJ c0 c1 c2 c3 hR2 hbx2 B2 b2
    go_wp2_with fail
    refine HCL.out.mono ?_
    clear HCL
    rintro e w3 ⟨⟨z0, z1, z2, z3, rfl, hone, hzj⟩, b3⟩
    have hR3 := HR2.out.below b3
    have HB3 := Lib.hid (HB2.out.trans (b3.mono HB2.out.size))
    have HZJ := Lib.hid hzj
    have HS2 : Hid (w.heap.size + 1 < w2.heap.size) := Lib.hid HR2.out.lt
    clear hzj b3
    go_wp2_with (guard_target =~ Go.wpList _ _ _ ({ dst := none, op := Go.Op.store 28 _ _, type := _, pos := _, after := _, guard := none } :: _) _ _; refine st4 rfl rfl hone hR3 ?_)
    intro wz hz oz
    have HBZ := Lib.hid (pushed_below HB3.out oz (fun b hb => by omega))
    have HJZ : Hid (JR wz (fun b => w.heap.size ≤ b ∧ b < wz.heap.size) l[j] (.agg #[z0, z1, z2, z3])) := Lib.hid (JR.mono (fun b hb => ⟨by have := HS2.out; omega, by have := oz.size; omega⟩) _ _ (JR.off oz (fun b hb e => by have := HS2.out; omega) _ _ HZJ.out))
    clear hR3 oz
    go_wp2
    exact bodyPost_ret (v := .tuple #[.agg #[z0, z1, z2, z3], .bool true]) (by simp [results, Tryd.results19, go_sem, J4.c0 hz, J4.c1 hz, J4.c2 hz, J4.c3 hz]) rfl ⟨⟨z0, z1, z2, z3, by rw [HE.out.2], hone, by rw [HE.out.1]; exact HJZ.out⟩, HBZ.out⟩
  · have h0' : i < 0 := by omega
    have HE : Hid (G = zeroV ∧ b = false) := Lib.hid ⟨by rw [HGV.out, if_neg h0], by rw [HGB.out, decide_eq_false h0]⟩
    clear hbx2 B2 b2
    go_wp2_with (guard_target =~ Go.wpList _ _ _ ({ dst := none, op := Go.Op.store 28 _ _, type := _, pos := _, after := _, guard := none } :: _) _ _; refine st4 rfl rfl ⟨rfl, rfl, rfl, rfl⟩ hR2 ?_)
    intro wz hz oz
    have HBZ := Lib.hid (pushed_below HB2.out oz (fun b hb => by omega))
    clear hR2 oz
    go_wp2
    exact bodyPost_ret (v := .tuple #[zeroJ, .bool false]) (by simp [results, Tryd.results19, go_sem, J4.c0 hz, J4.c1 hz, J4.c2 hz, J4.c3 hz]) rfl ⟨⟨_, _, _, _, by rw [HE.out.2], ⟨rfl, rfl, rfl, rfl⟩, by rw [HE.out.1]; exact jr_nil _ _ 0⟩, HBZ.out⟩
set_option maxRecDepth 100000 in
set_option maxHeartbeats 2000000 in
theorem textv_any {T : Nat → Prop} {v : JV} {x : Value} {w : World} (nm : Bt) (hJ : JR w T v x) (hW : wJ v ≤ 1000000) :
    Calls Tryd.prog 21 #[x, .string (bs nm)] w fun e w' => e = .returned (.string (bs (textV (getV v nm)))) ∧ Below w.heap.size w w' := by
  obtain ⟨k, t, ns, l⟩ := v
  have hJ2 := hJ
  rw [JR] at hJ
  obtain ⟨nA, nc, lA, lc, rfl, _, hL⟩ := hJ
  rw [wJ] at hW
  have hnsl := nsW_len ns
  have hwl := wsJ_len l
  have hlo := getI_lo k t ns l nm
  have HLA := Lib.hid (fun (W : World) (hW : Below w.heap.size w W) => plast_any nm (hJ2.below hW) (by omega) (by omega))
  have HGV : Hid (getV (.mk k t ns l) nm = if 0 ≤ lastJ k ns l.length nm then l.getD (lastJ k ns l.length nm).toNat zeroV else zeroV) := Lib.hid rfl
  obtain ⟨i, hi⟩ : ∃ i, lastJ k ns l.length nm = i := ⟨_, rfl⟩
  rw [hi] at HLA HGV hlo
  obtain ⟨G, hG⟩ : ∃ g, getV (.mk k t ns l) nm = g := ⟨_, rfl⟩
  rw [hG] at HGV ⊢
  have HL := Lib.hid hL
  have HWL : Hid (wsJ l ≤ 1000000) := Lib.hid (by omega)
  clear hJ2 hL hG hi hW hnsl
  obtain ⟨nn, hnn⟩ : ∃ n, ns.length = n := ⟨_, rfl⟩
  obtain ⟨n, hn⟩ : ∃ n, l.length = n := ⟨_, rfl⟩
  rw [hnn, hn] at HLA ⊢
  have HN := Lib.hid hn
  have HLO : Hid (-1 ≤ i ∧ i < n ∧ n ≤ 1000000) := Lib.hid (by have := HWL.out; omega)
  clear hnn hn hlo hwl
  obtain ⟨N, hN⟩ : ∃ s, bs nm = s := ⟨_, rfl⟩
  rw [hN] at HLA ⊢
  clear hN
  obtain ⟨W1, hW1⟩ : ∃ W, w.alloc (.cells #[.int .i64 k, .string (bs t), .slice nA nn nc, .slice lA n lc] TJ) = W := ⟨_, rfl⟩
  have hbx : J4 w.heap.size (.int .i64 k) (.string (bs t)) (.slice nA nn nc) (.slice lA n lc) W1 := by
    rw [← hW1]
    exact Blk.new _ w
  have hB1 : Below w.heap.size w W1 := by
    rw [← hW1]
    exact (Below.refl _ _).alloc (Nat.le_refl _) _
  have HBX := Lib.hid hbx
  have HB1 := Lib.hid hB1
  have HC := Lib.hid (HLA.out W1 hB1)
  clear hbx hB1 HLA
  subst hW1
  go_enter Tryd.func21, Tryd.ntmps21
  go_wp2_with fail
  refine HC.out.mono ?_
  clear HC
  generalize w.alloc (.cells #[.int .i64 k, .string (bs t), .slice nA nn nc, .slice lA n lc] TJ) = W1 at *
  rintro e w2 ⟨rfl, b2⟩
  have hbx2 := HBX.out.below b2
  have B2 := HB1.out.trans (b2.mono HB1.out.size)
  have HB2 := Lib.hid B2
  by_cases h0 : 0 ≤ i
  · obtain ⟨j, rfl⟩ := Int.eq_ofNat_of_zero_le h0
    have hjl : j < l.length := by have := HLO.out; have := HN.out; omega
    obtain ⟨bl, off, rfl, _, hbw, hJl⟩ := HL.out (by omega)
    obtain ⟨x0, x1, x2, x3, c0, c1, c2, c3, hJ⟩ := hJl.at j hjl
    have hwj : wJ l[j] ≤ 1000000 := by have := wsJ_at l j hjl; have := HWL.out; omega
    have HE : Hid (G = l[j]) := Lib.hid (by rw [HGV.out, if_pos h0]; simp [List.getD, hjl])
    obtain ⟨vj, hvj⟩ : ∃ y, l[j] = y := ⟨_, rfl⟩
    rw [hvj] at hJ hwj HE
    obtain ⟨k', t', ns', l'⟩ := vj
    rw [JR] at hJ
    obtain ⟨nA', nc', lA', lc', e, _, _⟩ := hJ
    injection e with e
    obtain ⟨rfl, rfl, rfl, rfl⟩ : x0 = .int .i64 k' ∧ x1 = .string (bs t') ∧ x2 = .slice nA' ns'.length nc' ∧ x3 = .slice lA' l'.length lc' := by simpa using e
    rw [wJ] at hwj
    have HCT := Lib.hid (fun W => pclone_any t' W (by omega))
    obtain ⟨nn', hnn'⟩ : ∃ n, ns'.length = n := ⟨_, rfl⟩
    obtain ⟨ln', hln'⟩ : ∃ n, l'.length = n := ⟨_, rfl⟩
    rw [hnn'] at c2
    rw [hln'] at c3
    have y0 := (B2.cell (p := ⟨bl, off + j * 4, none⟩) hbw).trans c0
    have y1 := (B2.cell (p := ⟨bl, off + j * 4 + 1, none⟩) hbw).trans c1
    have y2 := (B2.cell (p := ⟨bl, off + j * 4 + 2, none⟩) hbw).trans c2
    have y3 := (B2.cell (p := ⟨bl, off + j * 4 + 3, none⟩) hbw).trans c3
    have e3 := hbx2.c3
    have hjn : (j : Int) < (n : Int) := HLO.out.2.1
    have hba : Below w2.heap.size w2 (w2.alloc (.cells #[.int .i64 k', .string (bs t'), .slice nA' nn' nc', .slice lA' ln' lc'] TJ)) := (Below.refl _ _).alloc (Nat.le_refl _) _
    have HBA := Lib.hid (HB2.out.trans (hba.mono HB2.out.size))
    have n0 := (Blk.new (.cells #[.int .i64 k', .string (bs t'), .slice nA' nn' nc', .slice lA' ln' lc'] TJ (0, 0)) w2).cell 0
    have n1 := (Blk.new (.cells #[.int .i64 k', .string (bs t'), .slice nA' nn' nc', .slice lA' ln' lc'] TJ (0, 0)) w2).cell 1
    clear hJl c0 c1 c2 c3 hbx2 B2 b2 hba hnn' hln' hwj hvj e
    by_cases h3 : k' = 3 ∨ k' = 4
    · have HTX : Hid (textV (.mk k' t' ns' l') = t') := Lib.hid (if_pos h3)
      rcases h3 with rfl | rfl
      · go_wp2_with (go_at_call 33; (with_reducible refine (HCT.out _).mono ?_); rintro e w3 ⟨rfl, b3⟩)
        go_ret
        exact ⟨by rw [HE.out, HTX.out]; rfl, HBA.out.trans (b3.mono HBA.out.size)⟩
      · go_wp2_with (go_at_call 33; (with_reducible refine (HCT.out _).mono ?_); rintro e w3 ⟨rfl, b3⟩)
        go_ret
        exact ⟨by rw [HE.out, HTX.out]; rfl, HBA.out.trans (b3.mono HBA.out.size)⟩
    · have HTX : Hid (textV (.mk k' t' ns' l') = []) := Lib.hid (if_neg h3)
      have e3' : (k' == 3) = false := by rw [beq_eq_false_iff_ne]; omega
      have e4' : (k' == 4) = false := by rw [beq_eq_false_iff_ne]; omega
      clear h3
      go_wp2
      go_ret
      exact ⟨by rw [HE.out, HTX.out]; rfl, HBA.out⟩
  · have h0' : i < 0 := by omega
    have HE : Hid (textV G = []) := Lib.hid (by rw [HGV.out, if_neg h0]; rfl)
    clear hbx2 B2 b2
    go_wp2
    go_ret
    exact ⟨by rw [HE.out]; rfl, HB2.out⟩
end Go.Proofs.YtchgelfomnbpaaaDoor
