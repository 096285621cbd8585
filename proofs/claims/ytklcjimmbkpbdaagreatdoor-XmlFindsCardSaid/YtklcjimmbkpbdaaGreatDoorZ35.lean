/-
  The program's Find, All. Conditions: nodes of modest weight.
-/
import Derived.Test.YtklcjimmbkpbdaaGreatDoorZ34
namespace Go.Proofs.YtklcjimmbkpbdaaGreatDoor
open Go.RowKit
open Go.Lib

def findK : List XV → Bt → Bt → Option XV
  | [], _, _ => none
  | k :: l, sp, nm => if namedX k sp nm = true then some k else findK l sp nm
theorem findK_step {l : List XV} {j : Nat} (h : j < l.length) (sp nm : Bt) : findK (l.drop j) sp nm = if namedX l[j] sp nm = true then some l[j] else findK (l.drop (j + 1)) sp nm := by
  rw [List.drop_eq_getElem_cons h, findK]
def allK (l : List XV) (sp nm : Bt) : List XV := l.filter fun k => namedX k sp nm
theorem allK_take {l : List XV} {j : Nat} (h : j < l.length) (sp nm : Bt) : allK (l.take (j + 1)) sp nm = allK (l.take j) sp nm ++ (if namedX l[j] sp nm = true then [l[j]] else []) := by
  rw [List.take_succ_eq_append_getElem h]
  unfold allK
  rw [List.filter_append, List.filter_cons, List.filter_nil]
theorem allK_len (l : List XV) (sp nm : Bt) : (allK l sp nm).length ≤ l.length := List.length_filter_le _ _
theorem findK_all : ∀ (l : List XV) (sp nm : Bt), findK l sp nm = (allK l sp nm).head?
  | [], _, _ => rfl
  | k :: l, sp, nm => by
    have ih := findK_all l sp nm
    unfold allK at ih ⊢
    rw [findK, List.filter_cons]
    by_cases h : namedX k sp nm = true
    · rw [if_pos h, if_pos h]; rfl
    · rw [if_neg h, if_neg h, ih]
/-- What Find answers. -/
def FiO (o : Option XV) (w : World) (e : Ending) (w' : World) : Prop :=
  (∃ x b, e = .returned (.tuple #[x, .bool b]) ∧ b = o.isSome ∧ XR w' (fun b => w.heap.size ≤ b ∧ b < w'.heap.size) (o.getD zeroX) x) ∧ Below w.heap.size w w'
theorem FiO.no {o : Option XV} {w w' : World} (h : o = none) (hb : Below w.heap.size w w') : FiO o w (.returned (.tuple #[zNV, .bool false])) w' := by
  subst h
  exact ⟨⟨_, _, rfl, rfl, xr_zero _ _⟩, hb⟩
theorem FiO.yes {o : Option XV} {v : XV} {x : Value} {w w' : World} (h : o = some v) (hx : XR w' (fun b => w.heap.size ≤ b ∧ b < w'.heap.size) v x) (hb : Below w.heap.size w w') : FiO o w (.returned (.tuple #[x, .bool true])) w' := by
  subst h
  exact ⟨⟨_, _, rfl, rfl, hx⟩, hb⟩
/-- What stands there while the kids are looked through: the result's box. -/
structure FSt (P R : Nat) (src : Array Value) (w W : World) : Prop where
  par : Blk P (.cells src TNo (0, 0)) W
  res : Blk R ZN W
  since : Below w.heap.size w W
  o1 : w.heap.size ≤ R
theorem FSt.below {P R : Nat} {src : Array Value} {w W W' : World} (h : FSt P R src w W) (hb : Below W.heap.size W W') : FSt P R src w W' :=
  ⟨(Off.of_below hb).blk h.par (fun h => h), (Off.of_below hb).blk h.res (fun h => h), h.since.trans (hb.mono h.since.size), h.o1⟩
set_option maxRecDepth 100000 in
set_option maxHeartbeats 8000000 in
theorem find_any {T : Nat → Prop} {v : XV} {x : Value} {w : World} (hx : XR w T v x) (hw : wX v ≤ 100000) (sp nm : Bt) :
    Calls Tryz.prog 20 #[x, .string (bs sp), .string (bs nm)] w (FiO (findK v.kids sp nm) w) := by
  have hat : ∃ aA ac kA kc, x = .agg #[sV v.space, sV v.name, .slice aA v.attrs.length ac, .slice kA v.kids.length kc, sV v.text] ∧ RC w T aA (cA v.attrs) ∧ RN8 w T kA v.kids := by
    obtain ⟨sp, nm, al, ks, tx⟩ := v
    exact XR.attrs hx
  obtain ⟨aA, ac, kA, kc, rfl, _, hK⟩ := hat
  have hb1 := below_alloc8 w (.cells #[sV v.space, sV v.name, .slice aA v.attrs.length ac, .slice kA v.kids.length kc, sV v.text] TNo (0, 0))
  have hP := Blk.new (.cells #[sV v.space, sV v.name, .slice aA v.attrs.length ac, .slice kA v.kids.length kc, sV v.text] TNo (0, 0)) w
  have hb2 := below_alloc8 (w.alloc (.cells #[sV v.space, sV v.name, .slice aA v.attrs.length ac, .slice kA v.kids.length kc, sV v.text] TNo (0, 0))) ZN
  have hR := Blk.new ZN (w.alloc (.cells #[sV v.space, sV v.name, .slice aA v.attrs.length ac, .slice kA v.kids.length kc, sV v.text] TNo (0, 0)))
  have hsz : (w.alloc (.cells #[sV v.space, sV v.name, .slice aA v.attrs.length ac, .slice kA v.kids.length kc, sV v.text] TNo (0, 0))).heap.size = w.heap.size + 1 := by simp
  rw [hsz] at hR
  have HF := Lib.hid (FSt.mk ((Off.of_below hb2).blk hP (fun h => h)) hR (hb1.trans (hb2.mono hb1.size)) (Nat.le_succ _))
  have hlk := wXs_len v.kids
  have hkk := (wX_text v).2.2.2.2.2
  obtain ⟨ks, hks⟩ : ∃ n, v.kids = n := ⟨_, rfl⟩
  rw [hks] at hK HF hlk hkk ⊢
  have HK := Lib.hid hK
  obtain ⟨nA, hnA⟩ : ∃ n, v.attrs.length = n := ⟨_, rfl⟩
  obtain ⟨nK, hnK⟩ : ∃ n, ks.length = n := ⟨_, rfl⟩
  have HNK := Lib.hid hnK
  have hnKb : nK ≤ 100000 := by omega
  have HWK : Hid (wXs ks ≤ 100000) := Lib.hid (by omega)
  rw [hnA, hnK] at HF
  rw [hnA, hnK]
  obtain ⟨o, ho⟩ : ∃ o, findK ks sp nm = o := ⟨_, rfl⟩
  have HO : Hid (o = findK (ks.drop 0) sp nm) := Lib.hid (by rw [List.drop_zero]; exact ho.symm)
  rw [ho]
  clear hx hw hK hb1 hP hb2 hR hsz hlk hkk hks hnA hnK ho
  go_enter Tryz.func20, Tryz.ntmps20
  go_wp2
  go_loopw [13] (fun i wr => ∃ j : Nat, j ≤ nK ∧ i = .int .i64 j ∧ Hid (FSt w.heap.size (w.heap.size + 1) #[sV v.space, sV v.name, .slice aA nA ac, .slice kA nK kc, sV v.text] w wr) ∧ Hid (o = findK (ks.drop j) sp nm)) (fun i _ => nK - (RowKit.intOf i).toNat)
  case atStart => exact ⟨0, Nat.zero_le _, rfl, HF, HO⟩
  case round =>
    clear HF HO
    obtain ⟨j, hj, rfl, HF, HQ⟩ := hrel
    by_cases hjt : j < nK
    · have hjl : j < ks.length := by rw [HNK.out]; exact hjt
      obtain ⟨bb, off, hAe, hT, hbl, hll⟩ := HK.out (by omega)
      obtain ⟨kaA, kac, kkA, kkc, c0, c1, c2, c3, c4, hxk⟩ := XRl.cells hll j hjl
      have HST := Lib.hid (findK_step hjl sp nm)
      have hwm := wXs_mem (List.getElem_mem hjl)
      obtain ⟨kid, hkid⟩ : ∃ a, ks[j] = a := ⟨_, rfl⟩
      rw [hkid] at c0 c1 c2 c3 c4 hxk HST hwm
      have hb := HF.out.since
      have y0 := (hb.cell (p := ⟨bb, off + j * 5, none⟩) hbl).trans c0
      have y1 := (hb.cell (p := ⟨bb, off + j * 5 + 1, none⟩) hbl).trans c1
      have y2 := (hb.cell (p := ⟨bb, off + j * 5 + 2, none⟩) hbl).trans c2
      have y3 := (hb.cell (p := ⟨bb, off + j * 5 + 3, none⟩) hbl).trans c3
      have y4 := (hb.cell (p := ⟨bb, off + j * 5 + 4, none⟩) hbl).trans c4
      obtain ⟨kn, hkn⟩ : ∃ n, kid.attrs.length = n := ⟨_, rfl⟩
      obtain ⟨kkn, hkkn⟩ : ∃ n, kid.kids.length = n := ⟨_, rfl⟩
      rw [hkn] at y2 hxk
      rw [hkkn] at y3 hxk
      have hB1 := below_alloc8 wr (.cells #[sV kid.space, sV kid.name, .slice kaA kn kac, .slice kkA kkn kkc, sV kid.text] TNo (0, 0))
      have HB1 := Lib.hid (HF.out.below hB1)
      have HZ := Lib.hid (Blk.new (.cells #[sV kid.space, sV kid.name, .slice kaA kn kac, .slice kkA kkn kkc, sV kid.text] TNo (0, 0)) wr)
      have HNM := Lib.hid (fun V => named8_any (w := V) hxk sp nm)
      unfold BoO at HNM
      have hwk : wX kid ≤ 100000 := Nat.le_trans hwm HWK.out
      have HCK := Lib.hid (fun (W : World) (hW : Below w.heap.size w W) => clone_all 100000 (Nat.le_refl _) T kid _ W hwk (hxk.below hW))
      unfold CloO at HCK
      obtain ⟨b, hbn⟩ : ∃ b, namedX kid sp nm = b := ⟨_, rfl⟩
      rw [hbn] at HNM HST
      subst hAe
      clear c0 c1 c2 c3 c4 hll hkid hwm hb hkn hkkn hB1 hxk hbn hwk
      cases b with
      | false =>
        have HF2 : Hid (o = findK (ks.drop (j + 1)) sp nm) := Lib.hid (by rw [HQ.out, HST.out]; rfl)
        clear HQ HST HCK
        go_wp2_with (go_at_call 43; (with_reducible refine (HNM.out _).mono ?_); rintro e w2 ⟨rfl, b2⟩; have HB2 := Lib.hid (HB1.out.below b2); clear b2)
        go_roundw
        case rel => exact ⟨j + 1, by omega, by go_num, HB2, HF2⟩
        case measure => simp [RowKit.intOf]; omega
      | true =>
        have HF2 : Hid (o = some kid) := Lib.hid (by rw [HQ.out, HST.out]; rfl)
        clear HQ HST
        go_wp2_with fail
        refine (HNM.out _).mono ?_
        rintro e w2 ⟨rfl, b2⟩
        have z2 := (Off.of_below b2).blk HZ.out (fun h => h)
        have q0 := z2.cell 0
        have q1 := z2.cell 1
        have q2 := z2.cell 2
        have q3 := z2.cell 3
        have q4 := z2.cell 4
        have HB2 := Lib.hid (HB1.out.below b2)
        clear b2 z2
        go_wp2_with fail
        refine (HCK.out _ HB2.out.since).mono ?_
        rintro e w3 ⟨⟨xk, rfl, hxk⟩, b3⟩
        obtain ⟨raA, rac, rkA, rkc, rfl⟩ := xr_one hxk
        have hF3 := HB2.out.below b3
        have HB3 := Lib.hid hF3
        have HXK := Lib.hid hxk
        have HS2 := Lib.hid HB2.out.since.size
        have HR2 := Lib.hid HB2.out.res.lt
        obtain ⟨kn2, hkn⟩ : ∃ n, kid.attrs.length = n := ⟨_, rfl⟩
        obtain ⟨kkn2, hkkn⟩ : ∃ n, kid.kids.length = n := ⟨_, rfl⟩
        rw [hkn, hkkn] at HXK
        rw [hkn, hkkn]
        have r0 := hF3.res.cell 0
        have r1 := hF3.res.cell 1
        have r2 := hF3.res.cell 2
        have r3 := hF3.res.cell 3
        have r4 := hF3.res.cell 4
        have f0 := hF3.res.free 0
        have f1 := hF3.res.free 1
        have f2 := hF3.res.free 2
        have f3 := hF3.res.free 3
        have f4 := hF3.res.free 4
        clear hxk b3 hF3 hkn hkkn
        go_wp2
        have hE := five_set (a := sV kid.space) (b := sV kid.name) (c := .slice raA kn2 rac) (d := .slice rkA kkn2 rkc) (e := sV kid.text) HB3.out.res
        have d0 := hE.cell 0
        have d1 := hE.cell 1
        have d2 := hE.cell 2
        have d3 := hE.cell 3
        have d4 := hE.cell 4
        refine bodyPost_ret (v := .tuple #[.agg #[sV kid.space, sV kid.name, .slice raA kn2 rac, .slice rkA kkn2 rkc, sV kid.text], .bool true]) ?_ rfl ?_
        · simp [results, Tryz.results20, go_sem, d0, d1, d2, d3, d4]
        have oE : Off (fun b => b = w.heap.size + 1) w3 (((((w3.setCell ⟨w.heap.size + 1, 0, none⟩ (sV kid.space)).setCell ⟨w.heap.size + 1, 1, none⟩ (sV kid.name)).setCell ⟨w.heap.size + 1, 2, none⟩ (.slice raA kn2 rac)).setCell ⟨w.heap.size + 1, 3, none⟩ (.slice rkA kkn2 rkc)).setCell ⟨w.heap.size + 1, 4, none⟩ (sV kid.text)) := ((((off_set8 _ _ _ _).then (off_set8 _ _ _ _)).then (off_set8 _ _ _ _)).then (off_set8 _ _ _ _)).then (off_set8 _ _ _ _)
        have hsz := oE.size
        have hs2 := HS2.out
        have hr2 := HR2.out
        exact FiO.yes HF2.out (XR.mono (fun b hb => ⟨by omega, Nat.lt_of_lt_of_le hb.2 hsz⟩) _ _ (XR.off oE (fun b hb e => by omega) _ _ HXK.out)) (((Off.of_below HB3.out.since).trans oE (fun b hb => .inr (by omega))).below (fun _ h => h.elim))
    · obtain rfl : nK = j := by omega
      have hdk : ks.drop nK = [] := List.drop_of_length_le (by rw [HNK.out]; exact Nat.le_refl _)
      rw [hdk] at HQ
      have r0 := HF.out.res.cell 0
      have r1 := HF.out.res.cell 1
      have r2 := HF.out.res.cell 2
      have r3 := HF.out.res.cell 3
      have r4 := HF.out.res.cell 4
      have f0 := HF.out.res.free 0
      have f1 := HF.out.res.free 1
      have f2 := HF.out.res.free 2
      have f3 := HF.out.res.free 3
      have f4 := HF.out.res.free 4
      go_wp2
      have hE := five_set (a := .string ⟨#[]⟩) (b := .string ⟨#[]⟩) (c := .slice none 0 0) (d := .slice none 0 0) (e := .string ⟨#[]⟩) HF.out.res
      have d0 := hE.cell 0
      have d1 := hE.cell 1
      have d2 := hE.cell 2
      have d3 := hE.cell 3
      have d4 := hE.cell 4
      refine bodyPost_ret (v := .tuple #[zNV, .bool false]) ?_ rfl ?_
      · simp [results, Tryz.results20, go_sem, d0, d1, d2, d3, d4]
      have oE : Off (fun b => b = w.heap.size + 1) wr (((((wr.setCell ⟨w.heap.size + 1, 0, none⟩ (.string ⟨#[]⟩)).setCell ⟨w.heap.size + 1, 1, none⟩ (.string ⟨#[]⟩)).setCell ⟨w.heap.size + 1, 2, none⟩ (.slice none 0 0)).setCell ⟨w.heap.size + 1, 3, none⟩ (.slice none 0 0)).setCell ⟨w.heap.size + 1, 4, none⟩ (.string ⟨#[]⟩)) := ((((off_set8 _ _ _ _).then (off_set8 _ _ _ _)).then (off_set8 _ _ _ _)).then (off_set8 _ _ _ _)).then (off_set8 _ _ _ _)
      exact FiO.no HQ.out (((Off.of_below HF.out.since).trans oE (fun b hb => .inr (by omega))).below (fun _ h => h.elim))
/-- What All answers. -/
def AlO (l : List XV) (w : World) (e : Ending) (w' : World) : Prop :=
  (∃ A c, e = .returned (.slice A l.length c) ∧ RN8 w' (fun b => w.heap.size ≤ b ∧ b < w'.heap.size) A l) ∧ Below w.heap.size w w'
/-- What stands there while kids are taken. -/
structure ASt (w : World) (l : List XV) (v : Value) (cs : List Value) (T : Nat → Prop) (W : World) : Prop where
  row : W.ownsRow w.heap.size TNo 5 v l.length cs
  read : XRs W T l cs
  apart : ∀ b, T b → w.heap.size ≤ b ∧ b < W.heap.size ∧ v.ownBlock ≠ some b
  since : Below w.heap.size w W
theorem ASt.below {w W W' : World} {l : List XV} {v : Value} {cs : List Value} {T : Nat → Prop} (h : ASt w l v cs T W) (hb : Below W.heap.size W W') : ASt w l v cs T W' :=
  ⟨own_off h.row (Off.of_below hb) (fun _ _ h => h), XRs.off (Off.of_below hb) (fun _ _ h => h) _ _ h.read, fun b hb2 => by have := h.apart b hb2; exact ⟨this.1, Nat.lt_of_lt_of_le this.2.1 hb.size, this.2.2⟩, h.since.trans (hb.mono h.since.size)⟩
theorem ASt.push {w W W' : World} {l : List XV} {v v' : Value} {cs : List Value} {T U : Nat → Prop} {k : XV} {x0 x1 x2 x3 x4 : Value} (h : ASt w l v cs T W) (hU : ∀ b, U b → w.heap.size ≤ b ∧ b < W.heap.size ∧ v.ownBlock ≠ some b) (hk : XR W U k (.agg #[x0, x1, x2, x3, x4]))
    (L : W'.ownsRow w.heap.size TNo 5 v' (l.length + 1) (cs ++ [x0, x1, x2, x3, x4])) (ho : Off (fun b => v.ownBlock = some b) W W') (hv : ∀ b, v'.ownBlock = some b → v.ownBlock = some b ∨ W.heap.size ≤ b) : ASt w (l ++ [k]) v' (cs ++ [x0, x1, x2, x3, x4]) (fun b => T b ∨ U b) W' := by
  have hTU : ∀ b, (T b ∨ U b) → w.heap.size ≤ b ∧ b < W.heap.size ∧ v.ownBlock ≠ some b := fun b hb => hb.elim (h.apart b) (hU b)
  refine ⟨by rw [List.length_append, List.length_singleton]; exact L, ?_, fun b hb => ?_, ?_⟩
  · exact XRs.off ho (fun b hb e => (hTU b hb).2.2 e) _ _ (XRs.snoc (XR.mono (T' := fun b => T b ∨ U b) (fun b h => Or.inr h) _ _ hk) _ _ (XRs.mono (T' := fun b => T b ∨ U b) (fun b h => Or.inl h) _ _ h.read))
  · have h1 := hTU b hb
    refine ⟨h1.1, Nat.lt_of_lt_of_le h1.2.1 ho.size, fun e => ?_⟩
    rcases hv b e with h | h
    · exact h1.2.2 h
    · omega
  · exact ((Off.of_below h.since).trans ho (fun b hb => .inr (World.ownsRow.lt h.row b hb).1)).below (fun _ h => h.elim)
set_option maxRecDepth 100000 in
set_option maxHeartbeats 8000000 in
theorem all8_any {T : Nat → Prop} {v : XV} {x : Value} {w : World} (hx : XR w T v x) (hw : wX v ≤ 100000) (sp nm : Bt) :
    Calls Tryz.prog 18 #[x, .string (bs sp), .string (bs nm)] w (AlO (allK v.kids sp nm) w) := by
  have hat : ∃ aA ac kA kc, x = .agg #[sV v.space, sV v.name, .slice aA v.attrs.length ac, .slice kA v.kids.length kc, sV v.text] ∧ RC w T aA (cA v.attrs) ∧ RN8 w T kA v.kids := by
    obtain ⟨sp, nm, al, ks, tx⟩ := v
    exact XR.attrs hx
  obtain ⟨aA, ac, kA, kc, rfl, _, hK⟩ := hat
  have hb1 := below_alloc8 w (.cells #[sV v.space, sV v.name, .slice aA v.attrs.length ac, .slice kA v.kids.length kc, sV v.text] TNo (0, 0))
  have HF : Hid (ASt w [] (.slice none 0 0) [] (fun _ => False) (w.alloc (.cells #[sV v.space, sV v.name, .slice aA v.attrs.length ac, .slice kA v.kids.length kc, sV v.text] TNo (0, 0)))) := Lib.hid ⟨World.ownsRow_nil _ _ _ _, rfl, fun _ h => h.elim, hb1⟩
  have hlk := wXs_len v.kids
  have hkk := (wX_text v).2.2.2.2.2
  obtain ⟨ks, hks⟩ : ∃ n, v.kids = n := ⟨_, rfl⟩
  rw [hks] at hK HF hlk hkk ⊢
  have HK := Lib.hid hK
  obtain ⟨nA, hnA⟩ : ∃ n, v.attrs.length = n := ⟨_, rfl⟩
  obtain ⟨nK, hnK⟩ : ∃ n, ks.length = n := ⟨_, rfl⟩
  have HNK := Lib.hid hnK
  have hnKb : nK ≤ 100000 := by omega
  have HWK : Hid (wXs ks ≤ 100000) := Lib.hid (by omega)
  rw [hnA, hnK] at HF
  rw [hnA, hnK]
  clear hx hw hK hb1 hlk hkk hks hnA hnK
  go_enter Tryz.func18, Tryz.ntmps18
  go_wp2
  go_loopw [7, 13] (fun av i wr => ∃ j : Nat, j ≤ nK ∧ i = .int .i64 j ∧ Hid (∃ cs U, ASt w (allK (ks.take j) sp nm) av cs U wr)) (fun _ i _ => nK - (RowKit.intOf i).toNat)
  case atStart => exact ⟨0, Nat.zero_le _, rfl, Lib.hid ⟨_, _, by rw [List.take_zero]; exact HF.out⟩⟩
  case round =>
    clear HF
    obtain ⟨j, hj, rfl, HSE⟩ := hrel
    obtain ⟨cs, U, hA⟩ := HSE.out
    clear HSE
    by_cases hjt : j < nK
    · have hjl : j < ks.length := by rw [HNK.out]; exact hjt
      obtain ⟨bb, off, hAe, hT, hbl, hll⟩ := HK.out (by omega)
      obtain ⟨kaA, kac, kkA, kkc, c0, c1, c2, c3, c4, hxk⟩ := XRl.cells hll j hjl
      have HST := Lib.hid (allK_take hjl sp nm)
      have hwm := wXs_mem (List.getElem_mem hjl)
      obtain ⟨kid, hkid⟩ : ∃ a, ks[j] = a := ⟨_, rfl⟩
      rw [hkid] at c0 c1 c2 c3 c4 hxk HST hwm
      have hb := hA.since
      have y0 := (hb.cell (p := ⟨bb, off + j * 5, none⟩) hbl).trans c0
      have y1 := (hb.cell (p := ⟨bb, off + j * 5 + 1, none⟩) hbl).trans c1
      have y2 := (hb.cell (p := ⟨bb, off + j * 5 + 2, none⟩) hbl).trans c2
      have y3 := (hb.cell (p := ⟨bb, off + j * 5 + 3, none⟩) hbl).trans c3
      have y4 := (hb.cell (p := ⟨bb, off + j * 5 + 4, none⟩) hbl).trans c4
      obtain ⟨kn, hkn⟩ : ∃ n, kid.attrs.length = n := ⟨_, rfl⟩
      obtain ⟨kkn, hkkn⟩ : ∃ n, kid.kids.length = n := ⟨_, rfl⟩
      rw [hkn] at y2 hxk
      rw [hkkn] at y3 hxk
      have hB1 := below_alloc8 wr (.cells #[sV kid.space, sV kid.name, .slice kaA kn kac, .slice kkA kkn kkc, sV kid.text] TNo (0, 0))
      obtain ⟨pr, hpr⟩ : ∃ l, allK (ks.take j) sp nm = l := ⟨_, rfl⟩
      have hprl : pr.length ≤ 100000 := by rw [← hpr]; have := allK_len (ks.take j) sp nm; rw [List.length_take] at this; omega
      rw [hpr] at hA HST
      have HB1 := Lib.hid (hA.below hB1)
      have HZ := Lib.hid (Blk.new (.cells #[sV kid.space, sV kid.name, .slice kaA kn kac, .slice kkA kkn kkc, sV kid.text] TNo (0, 0)) wr)
      have HNM := Lib.hid (fun V => named8_any (w := V) hxk sp nm)
      unfold BoO at HNM
      have hwk : wX kid ≤ 100000 := Nat.le_trans hwm HWK.out
      have HCK := Lib.hid (fun (W : World) (hW : Below w.heap.size w W) => clone_all 100000 (Nat.le_refl _) T kid _ W hwk (hxk.below hW))
      unfold CloO at HCK
      obtain ⟨b, hbn⟩ : ∃ b, namedX kid sp nm = b := ⟨_, rfl⟩
      rw [hbn] at HNM HST
      subst hAe
      clear c0 c1 c2 c3 c4 hll hkid hwm hb hkn hkkn hB1 hxk hbn hwk hA hpr
      cases b with
      | false =>
        have HE : Hid (allK (ks.take (j + 1)) sp nm = pr) := Lib.hid (by rw [HST.out, if_neg (by decide), List.append_nil])
        clear HST HCK
        go_wp2_with (go_at_call 43; (with_reducible refine (HNM.out _).mono ?_); rintro e w2 ⟨rfl, b2⟩; have HB2 := Lib.hid (HB1.out.below b2); clear b2)
        go_roundw
        case rel => exact ⟨j + 1, by omega, by go_num, Lib.hid ⟨_, _, by rw [HE.out]; exact HB2.out⟩⟩
        case measure => simp [RowKit.intOf]; omega
      | true =>
        have HE : Hid (allK (ks.take (j + 1)) sp nm = pr ++ [kid]) := Lib.hid (by rw [HST.out, if_pos rfl])
        clear HST
        go_wp2_with fail
        refine (HNM.out _).mono ?_
        rintro e w2 ⟨rfl, b2⟩
        have z2 := (Off.of_below b2).blk HZ.out (fun h => h)
        have q0 := z2.cell 0
        have q1 := z2.cell 1
        have q2 := z2.cell 2
        have q3 := z2.cell 3
        have q4 := z2.cell 4
        have HB2 := Lib.hid (HB1.out.below b2)
        clear b2 z2
        go_wp2_with fail
        refine (HCK.out _ HB2.out.since).mono ?_
        rintro e w3 ⟨⟨xk, rfl, hxk⟩, b3⟩
        obtain ⟨x0, x1, x2, x3, x4, rfl, hone⟩ := XR.agg5 hxk
        have HA3 := Lib.hid (HB2.out.below b3)
        have HXK := Lib.hid hxk
        have HU : Hid (∀ b, (fun b => w2.heap.size ≤ b ∧ b < w3.heap.size) b → w.heap.size ≤ b ∧ b < w3.heap.size ∧ Value.ownBlock u7 ≠ some b) := Lib.hid (fun b hb => ⟨by have := HB2.out.since.size; omega, hb.2, fun e => by have := (World.ownsRow.lt HB2.out.row b e).2; omega⟩)
        have hone2 := of_all5 hone
        have hS3 := HA3.out.since.size
        clear hxk b3 hone
        obtain ⟨n3, hn3⟩ : ∃ n, pr.length = n := ⟨_, rfl⟩
        have hn39 : n3 ≤ 1000000 := by omega
        have HR3 := Lib.hid HA3.out.row
        rw [hn3] at HR3
        have HN3 := Lib.hid hn3
        clear hn3
        go_wp2_with (at_builtin; refine appR rfl _ _ 25 TNo 5 96 _ Tryz.underlying25 Tryz.info8N rfl (by decide) (by decide) rfl w3 w.heap.size u7 n3 cs [x0, x1, x2, x3, x4] rfl hone2 rfl HR3.out rfl hn39 hS3 ?_)
        intro v' w4 hown hoff hat
        have HA4 := Lib.hid (ASt.push HA3.out HU.out HXK.out (by rw [HN3.out]; exact hown) hoff hat)
        obtain ⟨vA, vc, rfl, _, _⟩ := RC.of_own hown (fun _ => True) (fun _ _ => trivial)
        clear hown hoff hat
        go_wp2
        go_roundw
        case rel => exact ⟨j + 1, by omega, by go_num, Lib.hid ⟨_, _, by rw [HE.out]; exact HA4.out⟩⟩
        case measure => simp [RowKit.intOf]; omega
    · obtain rfl : nK = j := by omega
      have htk : ks.take nK = ks := List.take_of_length_le (by rw [HNK.out]; exact Nat.le_refl _)
      rw [htk] at hA
      obtain ⟨kA2, kc2, rfl, hk2⟩ := RN8.of_own (T' := fun b => w.heap.size ≤ b ∧ b < wr.heap.size) hA.row rfl hA.read (fun b hb => by have := hA.apart b hb; exact ⟨this.1, this.2.1⟩) (fun b hb => by have := World.ownsRow.lt hA.row b hb; exact this)
      have HK2 := Lib.hid hk2
      have HS := Lib.hid hA.since
      clear hA hk2 htk
      go_wp2
      go_ret
      exact ⟨⟨_, _, rfl, HK2.out⟩, HS.out⟩
end Go.Proofs.YtklcjimmbkpbdaaGreatDoor
