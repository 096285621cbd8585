/-
  The document's All, Value, Inner of layer 8. Conditions: nodes of modest weight.
-/
import Derived.Test.YtklcjimmbkpbdaaGreatDoorZ21
import Derived.Test.YtklcjimmbkpbdaaGreatDoorZ20
import Derived.Test.YtklcjimmbkpbdaaGreatDoorZ18
namespace Go.Proofs.YtklcjimmbkpbdaaGreatDoor
open Go.RowKit
open Go.Lib

theorem add9 (a b : Bt) (h : a.length + b.length ≤ 9223372036854775807) (r : Bt) (hr : a ++ b = r) (W : World) : (Op.stringOp .add (bs a) (bs b)).run Tryz.prog W = .ok (.string (bs r)) W := by
  rw [run_string_add_sum W _ _ (by rw [bs_size, bs_size]; exact h), ← bs_app, hr]
set_option maxRecDepth 100000 in
set_option maxHeartbeats 4000000 in
theorem rvalue_any {T : Nat → Prop} {v : XV} {x : Value} {w : World} (hx : XR w T v x) (hw : wX v ≤ 100000) (nm : Bt) :
    Calls Tryz.prog 22 #[x, .string (bs nm)] w fun e w' => e = .returned (.string (bs (valX v nm))) ∧ Below w.heap.size w w' := by
  have hat : ∃ aA ac kA kc, x = .agg #[sV v.space, sV v.name, .slice aA v.attrs.length ac, .slice kA v.kids.length kc, sV v.text] ∧ RC w T aA (cA v.attrs) ∧ RN8 w T kA v.kids := by
    obtain ⟨sp, nm, al, ks, tx⟩ := v
    exact XR.attrs hx
  obtain ⟨aA, ac, kA, kc, rfl, hR, _⟩ := hat
  have HB := Lib.hid (below_alloc8 w (.cells #[sV v.space, sV v.name, .slice aA v.attrs.length ac, .slice kA v.kids.length kc, sV v.text] TNo (0, 0)))
  obtain ⟨al, hal⟩ : ∃ n, v.attrs = n := ⟨_, rfl⟩
  have hlA := wX_text v
  have hal9 : al.length ≤ 100000 := by rw [← hal]; omega
  unfold valX
  rw [hal] at hR HB
  rw [hal]
  obtain ⟨nA, hnA⟩ : ∃ n, al.length = n := ⟨_, rfl⟩
  obtain ⟨nK, hnK⟩ : ∃ n, v.kids.length = n := ⟨_, rfl⟩
  have HNA := Lib.hid hnA
  have HR := Lib.hid hR
  rw [hnA, hnK] at HB
  rw [hnA] at hal9
  rw [hnA, hnK]
  obtain ⟨o, ho⟩ : ∃ o, valA al nm = o := ⟨_, rfl⟩
  have HO : Hid (o = valA (al.drop 0) nm) := Lib.hid (by rw [List.drop_zero]; exact ho.symm)
  rw [ho]
  clear hx hw hR hal hlA hnA hnK ho
  go_enter Tryz.func22, Tryz.ntmps22
  go_wp2
  go_loopw [10] (fun i wr => ∃ k : Nat, k ≤ nA ∧ i = .int .i64 k ∧ Hid (Below w.heap.size w wr) ∧ Hid (o = valA (al.drop k) nm)) (fun i _ => nA - (RowKit.intOf i).toNat)
  case atStart => exact ⟨0, Nat.zero_le _, rfl, HB, HO⟩
  case round =>
    clear HB HO
    obtain ⟨k, hk, rfl, HB, HQ⟩ := hrel
    by_cases hlt : k < nA
    · have hkl : k < al.length := by rw [HNA.out]; exact hlt
      obtain ⟨bb, off, hAe, hT, hbl, hcl⟩ := HR.out (by rw [cA_len]; omega)
      obtain ⟨c0, c1, c2⟩ := RC.a3 hcl k hkl
      have HST := Lib.hid (valA_step hkl nm)
      obtain ⟨a, ha⟩ : ∃ a, al[k] = a := ⟨_, rfl⟩
      rw [ha] at c0 c1 c2 HST
      have hb := HB.out
      have y0 := (hb.cell (p := ⟨bb, off + k * 3, none⟩) hbl).trans c0
      have y1 := (hb.cell (p := ⟨bb, off + k * 3 + 1, none⟩) hbl).trans c1
      have y2 := (hb.cell (p := ⟨bb, off + k * 3 + 2, none⟩) hbl).trans c2
      subst hAe
      obtain ⟨⟨asp, anm, avl⟩, rfl⟩ : ∃ x : XA, a = x := ⟨_, rfl⟩
      simp only at y0 y1 y2 HST
      have hB1 := below_alloc8 wr (.cells #[sV asp, sV anm, sV avl] TA3 (0, 0))
      have HB1 : Hid (Below w.heap.size w (wr.alloc (.cells #[sV asp, sV anm, sV avl] TA3 (0, 0)))) := Lib.hid (hb.trans (hB1.mono hb.size))
      clear c0 c1 c2 hcl ha hb hB1
      by_cases h2 : anm = nm
      · have hs2 : ((bs anm).toList == (bs nm).toList) = true := by rw [eqS8, h2]; exact beq_self_eq_true _
        have hs3 : (bs anm).toList = (bs nm).toList := by rw [h2]
        by_cases h1 : asp = []
        · have hs1 : (bs asp).toList = [] := by rw [bs_toList]; exact h1
          have HF : Hid (o = avl) := Lib.hid (by rw [HQ.out, HST.out, if_pos ⟨h1, h2⟩])
          clear h1 h2 HQ HST
          go_wp2
          go_ret
          exact ⟨by rw [HF.out]; rfl, HB1.out⟩
        · have hs1 : ¬ (bs asp).toList = [] := by rw [bs_toList]; exact h1
          have hs4 : (bs asp).toList.isEmpty = false := by rw [bs_toList]; cases hq : asp with | nil => exact absurd hq h1 | cons => rfl
          have HF : Hid (o = valA (al.drop (k + 1)) nm) := Lib.hid (by rw [HQ.out, HST.out, if_neg (fun h => h1 h.1)])
          clear h1 h2 HQ HST
          go_wp2
          go_roundw
          case rel => exact ⟨k + 1, by omega, by go_num, HB1, HF⟩
          case measure => simp [RowKit.intOf]; omega
      · have hs2 : ((bs anm).toList == (bs nm).toList) = false := by rw [eqS8]; exact beq_false_of_ne h2
        have hs3 : ¬ (bs anm).toList = (bs nm).toList := by rw [bs_toList, bs_toList]; exact h2
        have HF : Hid (o = valA (al.drop (k + 1)) nm) := Lib.hid (by rw [HQ.out, HST.out, if_neg (fun h => h2 h.2)])
        clear h2 HQ HST
        go_wp2
        go_roundw
        case rel => exact ⟨k + 1, by omega, by go_num, HB1, HF⟩
        case measure => simp [RowKit.intOf]; omega
    · obtain rfl : nA = k := by omega
      have hdk : al.drop nA = [] := List.drop_of_length_le (by rw [HNA.out]; exact Nat.le_refl _)
      rw [hdk] at HQ
      have ho : o = [] := HQ.out
      subst ho
      go_wp2
      go_ret
      exact ⟨rfl, HB.out⟩
def RInnC (N : Nat) : Prop := ∀ (T : Nat → Prop) (v : XV) (x : Value) (w : World), wX v ≤ N → XR w T v x → Calls Tryz.prog 24 #[x] w (fun e w' => e = .returned (.string (bs (innerX v))) ∧ Below w.heap.size w w')
set_option maxRecDepth 100000 in
set_option maxHeartbeats 4000000 in
theorem rinn_step {N : Nat} (hN9 : N ≤ 99999) (IH : RInnC N) : RInnC (N + 1) := fun T v x w hN hx => by
  have hat : ∃ aA ac kA kc, x = .agg #[sV v.space, sV v.name, .slice aA v.attrs.length ac, .slice kA v.kids.length kc, sV v.text] ∧ RC w T aA (cA v.attrs) ∧ RN8 w T kA v.kids := by
    obtain ⟨sp, nm, al, ks, tx⟩ := v
    exact XR.attrs hx
  obtain ⟨aA, ac, kA, kc, rfl, _, hK⟩ := hat
  have HB := Lib.hid (below_alloc8 w (.cells #[sV v.space, sV v.name, .slice aA v.attrs.length ac, .slice kA v.kids.length kc, sV v.text] TNo (0, 0)))
  have hwe := wX_eq v
  have hlk := wXs_len v.kids
  obtain ⟨nA, hnA⟩ : ∃ n, v.attrs.length = n := ⟨_, rfl⟩
  by_cases hn : v.name = []
  · have hs1 : (bs v.name).toList = [] := by rw [bs_toList]; exact hn
    rw [innerX_text hn]
    obtain ⟨nK, hnK⟩ : ∃ n, v.kids.length = n := ⟨_, rfl⟩
    rw [hnA, hnK] at HB ⊢
    clear hx hK hwe hlk hn hnA hnK IH
    go_enter Tryz.func24, Tryz.ntmps24
    go_wp2
    go_ret
    exact ⟨rfl, HB.out⟩
  · have hs1 : ¬ (bs v.name).toList = [] := by rw [bs_toList]; exact hn
    have hs2 : (bs v.name).toList.isEmpty = false := by rw [bs_toList]; cases hq : v.name with | nil => exact absurd hq hn | cons => rfl
    rw [innerX_elem hn]
    obtain ⟨ks, hks⟩ : ∃ n, v.kids = n := ⟨_, rfl⟩
    rw [hks] at hK HB hwe hlk ⊢
    have HK := Lib.hid hK
    have HIH := Lib.hid IH
    have HWK : Hid (wXs ks ≤ N) := Lib.hid (by omega)
    have hWK9 : wXs ks ≤ 100000 := by omega
    have HWK9 := Lib.hid hWK9
    obtain ⟨nK, hnK⟩ : ∃ n, ks.length = n := ⟨_, rfl⟩
    have HNK := Lib.hid hnK
    have hnKb : nK ≤ 100000 := by omega
    rw [hnA, hnK] at HB
    rw [hnA, hnK]
    clear hx hK hwe hlk hn hks hnA hnK IH hWK9
    go_enter Tryz.func24, Tryz.ntmps24
    go_wp2
    go_loopw [3, 14] (fun s3 i wr => ∃ (k : Nat) (acc : Bt), k ≤ nK ∧ i = .int .i64 k ∧ s3 = .string (bs acc) ∧ Hid (acc = innersX (ks.take k)) ∧ Hid (Below w.heap.size w wr)) (fun _ i _ => nK - (RowKit.intOf i).toNat)
    case atStart => exact ⟨0, [], Nat.zero_le _, rfl, rfl, Lib.hid (by rw [List.take_zero, innersX]), HB⟩
    case round =>
      clear HB
      obtain ⟨j, acc, hj, rfl, rfl, HA, HB⟩ := hrel
      by_cases hjt : j < nK
      · have hjl : j < ks.length := by rw [HNK.out]; exact hjt
        obtain ⟨bb, off, hAe, hT, hbl, hll⟩ := HK.out (by omega)
        obtain ⟨kaA, kac, kkA, kkc, c0, c1, c2, c3, c4, hxk⟩ := XRl.cells hll j hjl
        have HTK := Lib.hid (innersX_take hjl)
        have hwm := wXs_mem (List.getElem_mem hjl)
        obtain ⟨kid, hkid⟩ : ∃ a, ks[j] = a := ⟨_, rfl⟩
        rw [hkid] at c0 c1 c2 c3 c4 hxk HTK hwm
        have hb := HB.out
        have y0 := (hb.cell (p := ⟨bb, off + j * 5, none⟩) hbl).trans c0
        have y1 := (hb.cell (p := ⟨bb, off + j * 5 + 1, none⟩) hbl).trans c1
        have y2 := (hb.cell (p := ⟨bb, off + j * 5 + 2, none⟩) hbl).trans c2
        have y3 := (hb.cell (p := ⟨bb, off + j * 5 + 3, none⟩) hbl).trans c3
        have y4 := (hb.cell (p := ⟨bb, off + j * 5 + 4, none⟩) hbl).trans c4
        subst hAe
        have hB1 := below_alloc8 wr (.cells #[sV kid.space, sV kid.name, .slice kaA kid.attrs.length kac, .slice kkA kid.kids.length kkc, sV kid.text] TNo (0, 0))
        have hB2 := hb.trans (hB1.mono hb.size)
        have HB2 := Lib.hid hB2
        have HC := Lib.hid (HIH.out T kid _ _ (Nat.le_trans hwm HWK.out) (hxk.below hB2))
        have hlen : acc.length + (innerX kid).length ≤ 200000 := by
          have h1 := innersX_len (ks.take j)
          have h2 := wXs_append (ks.take j) (ks.drop j)
          have h3 := innerX_len kid
          have h4 := HWK9.out
          rw [List.take_append_drop] at h2
          rw [HA.out]
          omega
        obtain ⟨kin, hkin⟩ : ∃ y, innerX kid = y := ⟨_, rfl⟩
        obtain ⟨acc2, hacc2⟩ : ∃ y, acc ++ kin = y := ⟨_, rfl⟩
        rw [hkin] at HC hlen HTK
        have hadd := add9 acc kin (by omega) acc2 hacc2
        have HV : Hid (acc2 = innersX (ks.take (j + 1))) := Lib.hid (by rw [HTK.out, ← HA.out, hacc2])
        clear c0 c1 c2 c3 c4 hll hkid hb hB1 hB2 hxk hwm hkin hacc2 hlen
        go_wp2_with fail
        refine HC.out.mono ?_
        rintro e w5 ⟨rfl, b5⟩
        have HB5 := Lib.hid (HB2.out.trans (b5.mono HB2.out.size))
        clear b5
        go_wp2
        go_roundw
        case rel => exact ⟨j + 1, acc2, by omega, by go_num, rfl, HV, HB5⟩
        case measure => simp [RowKit.intOf]; omega
      · obtain rfl : nK = j := by omega
        have htk : ks.take nK = ks := List.take_of_length_le (by rw [HNK.out]; exact Nat.le_refl _)
        rw [htk] at HA
        have ha := HA.out
        subst ha
        clear htk
        go_wp2
        go_ret
        exact ⟨rfl, HB.out⟩
theorem rinn_all : ∀ N : Nat, N ≤ 100000 → RInnC N
  | 0, _ => fun T v x w hN _ => by have := wX_eq v; omega
  | N + 1, h => rinn_step (by omega) (rinn_all N (by omega))
theorem rnamed_eq (v : XV) (sp nm : Bt) : namedX v sp nm = (v.name == nm && v.space == sp && !(nm == [])) := by
  unfold namedX
  by_cases h : v.name = nm
  · subst h
    cases (v.name == []) <;> cases (v.space == sp) <;> simp
  · rw [beq_false_of_ne h]
    simp
theorem RC.low {w : World} {T : Nat → Prop} {A : Option Addr} {cs : List Value} (h : RC w T A cs) : RC w (fun b => b < w.heap.size) A cs := fun h0 => by
  obtain ⟨b, off, e, _, hb, hc⟩ := h h0
  exact ⟨b, off, e, hb, hb, hc⟩
mutual
theorem XR.low {T : Nat → Prop} {w : World} : ∀ (v : XV) (x : Value), XR w T v x → XR w (fun b => b < w.heap.size) v x
  | .mk sp nm al ks tx, x, h => by
    rw [XR] at h ⊢
    obtain ⟨aA, ac, kA, kc, e, h1, h2⟩ := h
    refine ⟨aA, ac, kA, kc, e, h1.low, fun h0 => ?_⟩
    obtain ⟨b, off, e2, _, hb, hl⟩ := h2 h0
    exact ⟨b, off, e2, hb, hb, XRl.low ks b off hl⟩
theorem XRl.low {T : Nat → Prop} {w : World} : ∀ (l : List XV) (b off : Nat), XRl w T l b off → XRl w (fun b => b < w.heap.size) l b off
  | [], b, off, _ => by rw [XRl]; trivial
  | v :: l, b, off, h => by
    rw [XRl] at h ⊢
    obtain ⟨⟨x0, x1, x2, x3, x4, c0, c1, c2, c3, c4, hv⟩, hl⟩ := h
    exact ⟨⟨x0, x1, x2, x3, x4, c0, c1, c2, c3, c4, XR.low v _ hv⟩, XRl.low l b (off + 5) hl⟩
end
/-- What stands there while kids are taken as they are. -/
structure RSt (w : World) (l : List XV) (v : Value) (cs : List Value) (W : World) : Prop where
  row : W.ownsRow w.heap.size TNo 5 v l.length cs
  read : XRs W (fun b => b < w.heap.size) l cs
  since : Below w.heap.size w W
theorem RSt.below {w W W' : World} {l : List XV} {v : Value} {cs : List Value} (h : RSt w l v cs W) (hb : Below W.heap.size W W') : RSt w l v cs W' :=
  ⟨own_off h.row (Off.of_below hb) (fun _ _ h => h), XRs.off (Off.of_below hb) (fun _ _ h => h) _ _ h.read, h.since.trans (hb.mono h.since.size)⟩
theorem RSt.push {w W W' : World} {l : List XV} {v v' : Value} {cs : List Value} {k : XV} {x0 x1 x2 x3 x4 : Value} (h : RSt w l v cs W) (hk : XR W (fun b => b < w.heap.size) k (.agg #[x0, x1, x2, x3, x4]))
    (L : W'.ownsRow w.heap.size TNo 5 v' (l.length + 1) (cs ++ [x0, x1, x2, x3, x4])) (ho : Off (fun b => v.ownBlock = some b) W W') : RSt w (l ++ [k]) v' (cs ++ [x0, x1, x2, x3, x4]) W' := by
  have hr : ∀ b, b < w.heap.size → ¬ v.ownBlock = some b := fun b hb e => by have := (World.ownsRow.lt h.row b e).1; omega
  refine ⟨by rw [List.length_append, List.length_singleton]; exact L, XRs.off ho hr _ _ (XRs.snoc hk _ _ h.read), ?_⟩
  exact ((Off.of_below h.since).trans ho (fun b hb => .inr (World.ownsRow.lt h.row b hb).1)).below (fun _ h => h.elim)
set_option maxRecDepth 100000 in
set_option maxHeartbeats 8000000 in
theorem rall_any {T : Nat → Prop} {v : XV} {x : Value} {w : World} (hx : XR w T v x) (hw : wX v ≤ 100000) (sp nm : Bt) :
    Calls Tryz.prog 19 #[x, .string (bs sp), .string (bs nm)] w (fun e w' => (∃ A c, e = .returned (.slice A (allK v.kids sp nm).length c) ∧ RN8 w' (fun b => b < w'.heap.size) A (allK v.kids sp nm)) ∧ Below w.heap.size w w') := by
  have hat : ∃ aA ac kA kc, x = .agg #[sV v.space, sV v.name, .slice aA v.attrs.length ac, .slice kA v.kids.length kc, sV v.text] ∧ RC w (fun b => b < w.heap.size) aA (cA v.attrs) ∧ RN8 w (fun b => b < w.heap.size) kA v.kids := by
    have hx := XR.low v x hx
    obtain ⟨sp, nm, al, ks, tx⟩ := v
    exact XR.attrs hx
  obtain ⟨aA, ac, kA, kc, rfl, _, hK⟩ := hat
  have hb1 := below_alloc8 w (.cells #[sV v.space, sV v.name, .slice aA v.attrs.length ac, .slice kA v.kids.length kc, sV v.text] TNo (0, 0))
  have HF : Hid (RSt w [] (.slice none 0 0) [] (w.alloc (.cells #[sV v.space, sV v.name, .slice aA v.attrs.length ac, .slice kA v.kids.length kc, sV v.text] TNo (0, 0)))) := Lib.hid ⟨World.ownsRow_nil _ _ _ _, rfl, hb1⟩
  have hlk := wXs_len v.kids
  have hkk := (wX_text v).2.2.2.2.2
  obtain ⟨ks, hks⟩ : ∃ n, v.kids = n := ⟨_, rfl⟩
  rw [hks] at hK HF hlk hkk ⊢
  have HK := Lib.hid hK
  obtain ⟨nA, hnA⟩ : ∃ n, v.attrs.length = n := ⟨_, rfl⟩
  obtain ⟨nK, hnK⟩ : ∃ n, ks.length = n := ⟨_, rfl⟩
  have HNK := Lib.hid hnK
  have hnKb : nK ≤ 100000 := by omega
  rw [hnA, hnK] at HF
  rw [hnA, hnK]
  clear hx hw hK hb1 hlk hkk hks hnA hnK
  go_enter Tryz.func19, Tryz.ntmps19
  go_wp2
  go_loopw [7, 13] (fun av i wr => ∃ j : Nat, j ≤ nK ∧ i = .int .i64 j ∧ Hid (∃ cs, RSt w (allK (ks.take j) sp nm) av cs wr)) (fun _ i _ => nK - (RowKit.intOf i).toNat)
  case atStart => exact ⟨0, Nat.zero_le _, rfl, Lib.hid ⟨_, by rw [List.take_zero]; exact HF.out⟩⟩
  case round =>
    clear HF
    obtain ⟨j, hj, rfl, HSE⟩ := hrel
    obtain ⟨cs, hA⟩ := HSE.out
    clear HSE
    by_cases hjt : j < nK
    · have hjl : j < ks.length := by rw [HNK.out]; exact hjt
      obtain ⟨bb, off, hAe, hT, hbl, hll⟩ := HK.out (by omega)
      obtain ⟨kaA, kac, kkA, kkc, c0, c1, c2, c3, c4, hxk⟩ := XRl.cells hll j hjl
      have HST := Lib.hid (allK_take hjl sp nm)
      obtain ⟨kid, hkid⟩ : ∃ a, ks[j] = a := ⟨_, rfl⟩
      rw [hkid] at c0 c1 c2 c3 c4 hxk HST
      have hb := hA.since
      have y0 := (hb.cell (p := ⟨bb, off + j * 5, none⟩) hbl).trans c0
      have y1 := (hb.cell (p := ⟨bb, off + j * 5 + 1, none⟩) hbl).trans c1
      have y2 := (hb.cell (p := ⟨bb, off + j * 5 + 2, none⟩) hbl).trans c2
      have y3 := (hb.cell (p := ⟨bb, off + j * 5 + 3, none⟩) hbl).trans c3
      have y4 := (hb.cell (p := ⟨bb, off + j * 5 + 4, none⟩) hbl).trans c4
      obtain ⟨kn, hkn⟩ : ∃ n, kid.attrs.length = n := ⟨_, rfl⟩
      obtain ⟨kkn, hkkn⟩ : ∃ n, kid.kids.length = n := ⟨_, rfl⟩
      rw [hkn] at y2 hxk
      rw [hkkn] at y3 hxk
      have hB1 := below_alloc8 wr (.cells #[sV kid.space, sV kid.name, .slice kaA kn kac, .slice kkA kkn kkc, sV kid.text] TNo (0, 0))
      obtain ⟨pr, hpr⟩ : ∃ l, allK (ks.take j) sp nm = l := ⟨_, rfl⟩
      have hprl : pr.length ≤ 100000 := by rw [← hpr]; have := allK_len (ks.take j) sp nm; rw [List.length_take] at this; omega
      rw [hpr] at hA HST
      have HB1 := Lib.hid (hA.below hB1)
      have HXK := Lib.hid ((hxk.below hb).below hB1)
      have HNE := Lib.hid (rnamed_eq kid sp nm)
      subst hAe
      clear c0 c1 c2 c3 c4 hll hkid hb hkn hkkn hB1 hxk hA hpr
      by_cases h1 : kid.name = nm
      · have g1 : ((bs kid.name).toList == (bs nm).toList) = true := by rw [eqS8, h1]; exact beq_self_eq_true _
        have g1' : (bs kid.name).toList = (bs nm).toList := by rw [h1]
        by_cases h2 : kid.space = sp
        · have g2 : ((bs kid.space).toList == (bs sp).toList) = true := by rw [eqS8, h2]; exact beq_self_eq_true _
          have g2' : (bs kid.space).toList = (bs sp).toList := by rw [h2]
          by_cases h3 : nm = []
          · have g3 : (bs nm).toList = [] := by rw [bs_toList]; exact h3
            have g5 : (bs kid.name).toList = [] := by rw [bs_toList, h1]; exact h3
            have HE : Hid (allK (ks.take (j + 1)) sp nm = pr) := Lib.hid (by rw [HST.out, HNE.out, h3]; simp)
            clear g1
            clear h1 h2 h3 HST HNE g1'
            go_wp2
            go_roundw
            case rel => exact ⟨j + 1, by omega, by go_num, Lib.hid ⟨_, by rw [HE.out]; exact HB1.out⟩⟩
            case measure => simp [RowKit.intOf]; omega
          · have g3 : ¬ (bs nm).toList = [] := by rw [bs_toList]; exact h3
            have g4 : (bs nm).toList.isEmpty = false := by rw [bs_toList]; cases hq : nm with | nil => exact absurd hq h3 | cons => rfl
            have HE : Hid (allK (ks.take (j + 1)) sp nm = pr ++ [kid]) := Lib.hid (by rw [HST.out, HNE.out, if_pos (by rw [h1, h2]; simp [h3])])
            have hone : ∀ u ∈ [sV kid.space, sV kid.name, Value.slice kaA kn kac, Value.slice kkA kkn kkc, sV kid.text], u.oneCell' = true := of_all5 (all5 rfl rfl rfl rfl rfl)
            have HR3 := Lib.hid HB1.out.row
            obtain ⟨n3, hn3⟩ : ∃ n, pr.length = n := ⟨_, rfl⟩
            rw [hn3] at HR3
            have hn39 : n3 ≤ 1000000 := by omega
            have HN3 := Lib.hid hn3
            have hS3 := HB1.out.since.size
            have hsz : (wr.alloc (.cells #[sV kid.space, sV kid.name, .slice kaA kn kac, .slice kkA kkn kkc, sV kid.text] TNo (0, 0))).heap.size = wr.heap.size + 1 := by simp
            clear h1 h2 h3 HST HNE hn3
            go_wp2_with (at_builtin; refine appRH rfl _ _ 25 TNo 5 96 _ Tryz.underlying25 Tryz.info8N rfl (by decide) (by decide) rfl (wr.alloc (.cells #[sV kid.space, sV kid.name, .slice kaA kn kac, .slice kkA kkn kkc, sV kid.text] TNo (0, 0))) (wr.heap.size + 1) hsz w.heap.size u7 n3 cs [sV kid.space, sV kid.name, .slice kaA kn kac, .slice kkA kkn kkc, sV kid.text] rfl hone rfl HR3.out rfl hn39 hS3 ?_)
            intro v' w4 hown hoff hat
            have HA4 := Lib.hid (RSt.push HB1.out HXK.out (by rw [HN3.out]; exact hown) hoff)
            obtain ⟨vA, vc, rfl, _, _⟩ := RC.of_own hown (fun _ => True) (fun _ _ => trivial)
            clear hown hoff hat
            go_wp2
            go_roundw
            case rel => exact ⟨j + 1, by omega, by go_num, Lib.hid ⟨_, by rw [HE.out]; exact HA4.out⟩⟩
            case measure => simp [RowKit.intOf]; omega
        · have g2 : ((bs kid.space).toList == (bs sp).toList) = false := by rw [eqS8]; exact beq_false_of_ne h2
          have g2' : ¬ (bs kid.space).toList = (bs sp).toList := by rw [bs_toList, bs_toList]; exact h2
          have HE : Hid (allK (ks.take (j + 1)) sp nm = pr) := Lib.hid (by rw [HST.out, HNE.out, beq_false_of_ne h2]; simp)
          clear h1 h2 HST HNE g1'
          go_wp2
          go_roundw
          case rel => exact ⟨j + 1, by omega, by go_num, Lib.hid ⟨_, by rw [HE.out]; exact HB1.out⟩⟩
          case measure => simp [RowKit.intOf]; omega
      · have g1 : ((bs kid.name).toList == (bs nm).toList) = false := by rw [eqS8]; exact beq_false_of_ne h1
        have g1' : ¬ (bs kid.name).toList = (bs nm).toList := by rw [bs_toList, bs_toList]; exact h1
        have HE : Hid (allK (ks.take (j + 1)) sp nm = pr) := Lib.hid (by rw [HST.out, HNE.out, beq_false_of_ne h1]; simp)
        clear h1 HST HNE
        go_wp2
        go_roundw
        case rel => exact ⟨j + 1, by omega, by go_num, Lib.hid ⟨_, by rw [HE.out]; exact HB1.out⟩⟩
        case measure => simp [RowKit.intOf]; omega
    · obtain rfl : nK = j := by omega
      have htk : ks.take nK = ks := List.take_of_length_le (by rw [HNK.out]; exact Nat.le_refl _)
      rw [htk] at hA
      have hsz := hA.since.size
      obtain ⟨kA2, kc2, rfl, hk2⟩ := RN8.of_own (T' := fun b => b < wr.heap.size) hA.row rfl hA.read (fun b hb => by show b < _; omega) (fun b hb => (World.ownsRow.lt hA.row b hb).2)
      have HK2 := Lib.hid hk2
      have HS := Lib.hid hA.since
      clear hA hk2 htk hsz
      go_wp2
      go_ret
      exact ⟨⟨_, _, rfl, HK2.out⟩, HS.out⟩
end Go.Proofs.YtklcjimmbkpbdaaGreatDoor
