/-
  Of the proofs of layer 8 (elements of XML): the parts XAr XAs XAt XAu. No conditions.
-/
import Derived.Test.YtklcjimmbkpbdaaGreatDoorZ18
import Derived.Test.YtklcjimmbkpbdaaGreatDoorZ02
namespace Go.Proofs.YtklcjimmbkpbdaaGreatDoor
open Go.RowKit
open Go.Lib
theorem elem_tag (d : Nat) (sc : XS) (s : Bt) : elemX d sc s = match tagX s with
    | none => .error 70
    | some ((nm, ms, closed), s2) => match startX sc nm ms with
     | none => .error 70
     | some (v, sc') => if d = 24 then .error 71 else if closed = true then .ok (v, s2) else
      match kidsX (d + 1) sc' s2 [] [] with
      | .error e => .error e
      | .ok (ks, s3) => match endX nm s3 with
       | none => .error 70
       | some s4 => .ok (v.withKids ks, s4) := by
 rw [elemX_eq]
 unfold tagX
 cases markL s with
 | none => rfl
 | some x =>
  obtain ⟨nm, s1⟩ := x
  simp only
  cases tagL s1 with
  | none => rfl
  | some y => rfl
theorem tagX_parts {s r : Bt} {nm : XN} {ms : List XM} {c : Bool} (h : tagX s = some ((nm, ms, c), r)) : nm.1.length ≤ s.length ∧ nm.2.length ≤ s.length ∧ (∀ m ∈ ms, m.1.1.length ≤ s.length ∧ m.1.2.length ≤ s.length ∧ m.2.length ≤ s.length) ∧ ms.length + r.length < s.length := by
 unfold tagX at h
 cases h1 : markL s with
 | none => rw [h1] at h; cases h
 | some x =>
  obtain ⟨nm1, s1⟩ := x
  simp only [h1] at h
  cases h2 : tagL s1 with
  | none => rw [h2] at h; cases h
  | some y =>
   obtain ⟨ms1, c1, r1⟩ := y
   rw [h2] at h
   injection h with h
   injection h with e1 e2
   injection e1 with e1 e3
   injection e3 with e3 e4
   simp only at e1 e2 e3 e4
   subst e1; subst e2; subst e3; subst e4
   have g1 := mark_parts h1
   have g2 := tag_parts _ (Nat.le_refl _) h2
   have g3 := mark_len h1
   exact ⟨by omega, by omega, fun m hm => by have := g2.1 m hm; omega, by omega⟩
theorem EOut.bad {R S cap d : Nat} {l : XS} {w w' : World} {o : Except Int (XV × Bt)} {k : Int} (h : o = .error k) (hk : k ≠ 0) (ho : Off (fun b => b = R ∨ b = S) w w') : EOut R S cap d l w o (.returned (.tuple #[zNV, .int .i64 k])) w' := by
 subst h
 exact ⟨ho, hk, rfl⟩
set_option maxRecDepth 100000 in
set_option maxHeartbeats 40000000 in
theorem element_none {R S cap d : Nat} {l : XS} {s : Bt} {w : World} (hI : EIn R S cap d l s w) (ht : tagX s = none) :
    Calls Tryz.prog 53 #[.pointer (some ⟨R, 0, none⟩)] w (EOut R S cap d l w (elemX d l s)) := by
 have hB := below_alloc8 w ZN
 have HB := hid hB
 have hZ : Blk w.heap.size ZN (w.alloc ZN) := Blk.new ZN w
 have HZ := hid hZ
 have hRl := hI.rd.lt
 have HT := hid (tag_any (hI.rd.below hB) (hI.ml.below hB) hI.neR (by have := hI.short; omega))
 have HO : Hid (elemX d l s = .error 70) := hid (by rw [elem_tag, ht])
 rw [ht] at HT
 unfold TOut at HT
 clear ht hI hB hZ
 go_enter Tryz.func53, Tryz.ntmps53
 go_wp2_with (go_at_call 80; (with_reducible refine HT.out.mono ?_); rintro e w1 ⟨o1, x, y, A, m, c, cl, rfl⟩; have z1 := o1.blk HZ.out (fun e => by omega); have c0 := z1.cell 0; have c1 := z1.cell 1; have c2 := z1.cell 2; have c3 := z1.cell 3; have c4 := z1.cell 4; have f0 := z1.free 0; have f1 := z1.free 1; have f2 := z1.free 2; have f3 := z1.free 3; have f4 := z1.free 4; have zl := z1.lt; have HO1 := hid o1; have HZ1 := hid z1; clear o1 z1)
 have hE := (five_set (a := .string ⟨#[]⟩) (b := .string ⟨#[]⟩) (c := .slice none 0 0) (d := .slice none 0 0) (e := .string ⟨#[]⟩) HZ1.out).alloc8 (o' := .cells #[.string (bs x), .string (bs y), .slice A m c, .bool cl] TTg)
 have d0 := hE.cell 0
 have d1 := hE.cell 1
 have d2 := hE.cell 2
 have d3 := hE.cell 3
 have d4 := hE.cell 4
 refine bodyPost_ret (v := .tuple #[zNV, .int .i64 70]) ?_ rfl ?_
 ·simp [results, Tryz.results53, go_sem, d0, d1, d2, d3, d4]
 have hge := Nat.le_refl w.heap.size
 exact EOut.bad HO.out (by decide) ((((((((Off.ofB HB.out).then (HO1.out.mono (fun b e => Or.inl e))).new hge _ _).new hge _ _).new hge _ _).new hge _ _).new hge _ _).thenB (below_alloc8 _ _))
structure SoB (R S cap Z V d : Nat) (l : XS) (s2 : Bt) (tg : Array Value) (w : World) (M : Nat) (W : World) : Prop where
 rd : RS R s2 d (ScV S l.length cap) W
 sc : ScR S cap l W
 ml : ML W
 var : Blk V (.cells tg TTg (0, 0)) W
 zero : Blk Z ZN W
 off : Off (fun b => b = R ∨ b = S) w W
 keep : KeepS S l.length w W
 newM : w.heap.size ≤ M
 newZ : w.heap.size ≤ Z
 newV : w.heap.size ≤ V
 mz : M ≠ Z
 mv : M ≠ V
 zv : Z ≠ V
structure P5 where
 M : Nat
 x0 : Bt
 x1 : Bt
 A2 : Option Addr
 n2 : Nat
 c2 : Nat
 A3 : Option Addr
 n3 : Nat
 c3 : Nat
 x4 : Bt
 A : Option Addr
 n : Nat
 c : Nat
 b : Bool
def SoX (w : World) (l : XS) (nm : XN) (ms : List XM) (S Z V : Nat) (p : P5) (W : World) : Prop :=
 match startX l nm ms with
 | none => p.b = false
 | some (nd, l') => ∃ S', p.x0 = nd.space ∧ p.x1 = nd.name ∧ p.n2 = nd.attrs.length ∧ p.A3 = none ∧ p.n3 = 0 ∧ p.c3 = 0 ∧ p.x4 = [] ∧ p.A = some ⟨S', 0, none⟩ ∧ p.n = l'.length ∧ p.b = true ∧ ScR S' p.c l' W ∧ (S' = S ∨ w.heap.size ≤ S') ∧ RC W (fun b => (w.heap.size ≤ b ∧ b ≠ S') ∧ b < W.heap.size ∧ b ≠ Z ∧ b ≠ V ∧ b ≠ p.M) p.A2 (cA nd.attrs)
theorem SoX.off {w W W' : World} {l : XS} {nm : XN} {ms : List XM} {S Z V : Nat} {p : P5} {F : Nat → Prop} (h : SoX w l nm ms S Z V p W) (ho : Off F W W') (hS : ∀ b, F b → b = p.M ∨ W.heap.size ≤ b) (_hs : w.heap.size ≤ p.M) (hk : Blk p.M ZN W ∨ ∃ cs, Blk p.M (.cells cs TNo) W) (_hSl : S < w.heap.size) : SoX w l nm ms S Z V p W' := by
 unfold SoX at h ⊢
 cases hx : startX l nm ms with
 | none => rw [hx] at h; exact h
 | some y =>
  rw [hx] at h
  obtain ⟨nd, l'⟩ := y
  obtain ⟨S', e1, e2, e3, e4, e5, e6, e7, e8, e9, e10, hsc, hat, hr⟩ := h
  have hn : S' ≠ p.M := fun e => by
   obtain ⟨cur, hc, _⟩ := hsc
   rcases hk with hk | ⟨cs, hk⟩
   ·rw [e] at hc
    have := hc.symm.trans hk
    injection this with h1
    injection h1 with _ h2
    exact absurd h2 (by decide)
   ·rw [e] at hc
    have := hc.symm.trans hk
    injection this with h1
    injection h1 with _ h2
    exact absurd h2 (by decide)
  have hSn : ¬ F S' := fun e => (hS S' e).elim hn (fun e => by have := hsc.lt; omega)
  refine ⟨S', e1, e2, e3, e4, e5, e6, e7, e8, e9, e10, hsc.off ho hSn, hat, (hr.off ho (fun b hb e => (hS b e).elim (fun e => hb.2.2.2.2 e) (fun e => by omega))).mono (fun b hb => ⟨hb.1, Nat.lt_of_lt_of_le hb.2.1 ho.size, hb.2.2⟩)⟩
theorem SoX.below {w W W' : World} {l : XS} {nm : XN} {ms : List XM} {S Z V : Nat} {p : P5} (h : SoX w l nm ms S Z V p W) (ho : Below W.heap.size W W') : SoX w l nm ms S Z V p W' := by
 unfold SoX at h ⊢
 cases hx : startX l nm ms with
 | none => rw [hx] at h; exact h
 | some y =>
  rw [hx] at h
  obtain ⟨nd, l'⟩ := y
  obtain ⟨S', e1, e2, e3, e4, e5, e6, e7, e8, e9, e10, hsc, hat, hr⟩ := h
  exact ⟨S', e1, e2, e3, e4, e5, e6, e7, e8, e9, e10, hsc.off (Off.of_below ho) (fun h => h), hat, (hr.below ho).mono (fun b hb => ⟨hb.1, Nat.lt_of_lt_of_le hb.2.1 ho.size, hb.2.2⟩)⟩
theorem so_form {S : Nat} {l : XS} {nm : XN} {ms : List XM} {w W w' : World} {e : Ending} {Z V M : Nat} (hw : w.heap.size ≤ W.heap.size) (hZ : Z < W.heap.size) (hV : V < W.heap.size) (hM : M < W.heap.size ∨ w'.heap.size ≤ M) (h : SOut S l nm ms W e w') :
    ∃ p : P5, p.M = M ∧ e = .returned (.tuple #[.agg #[sV p.x0, sV p.x1, .slice p.A2 p.n2 p.c2, .slice p.A3 p.n3 p.c3, sV p.x4], .slice p.A p.n p.c, .bool p.b]) ∧ SoX w l nm ms S Z V p w' := by
 unfold SOut at h
 obtain ⟨_, _, h⟩ := h
 unfold SoX
 cases hx : startX l nm ms with
 | none =>
  rw [hx] at h
  obtain ⟨x0, x1, x4, A2, A3, n2, c2, n3, c3, v, rfl, A, n, c, rfl⟩ := h
  exact ⟨⟨M, x0, x1, A2, n2, c2, A3, n3, c3, x4, A, n, c, false⟩, rfl, rfl, rfl⟩
 | some y =>
  rw [hx] at h
  obtain ⟨nd, l'⟩ := y
  obtain ⟨S', cap', A, c, rfl, hsc, hat, hr, _, _⟩ := h
  refine ⟨⟨M, nd.space, nd.name, A, nd.attrs.length, c, none, 0, 0, [], some ⟨S', 0, none⟩, l'.length, cap', true⟩, rfl, rfl, S', rfl, rfl, rfl, rfl, rfl, rfl, rfl, rfl, rfl, rfl, hsc, hat.imp id (fun h => by omega), ?_⟩
  exact hr.lt.mono (fun b hb => ⟨⟨by omega, hb.1.2⟩, hb.2, by omega, by omega, by show b ≠ M; omega⟩)
theorem xr_node {w : World} {T : Nat → Prop} {nd : XV} {A : Option Addr} {c : Nat} (hk : nd.kids = []) (ht : nd.text = []) (hr : RC w T A (cA nd.attrs)) : XR w T nd (.agg #[sV nd.space, sV nd.name, .slice A nd.attrs.length c, .slice none 0 0, .string ⟨#[]⟩]) := by
 obtain ⟨sp, nm, al, ks, tx⟩ := nd
 change ks = [] at hk
 change tx = [] at ht
 subst hk; subst ht
 exact XR.of (kA := none) (kc := 0) hr (fun h => absurd h (Nat.lt_irrefl _))
theorem xr_kids {w : World} {T : Nat → Prop} {nd : XV} {A kA : Option Addr} {c kc : Nat} {ks : List XV} (ht : nd.text = []) (hr : RC w T A (cA nd.attrs)) (hk : RN8 w T kA ks) : XR w T (nd.withKids ks) (.agg #[sV nd.space, sV nd.name, .slice A nd.attrs.length c, .slice kA ks.length kc, .string ⟨#[]⟩]) := by
 obtain ⟨sp, nm, al, ks0, tx⟩ := nd
 change tx = [] at ht
 subst ht
 exact XR.of hr hk
theorem RN8.off {F T : Nat → Prop} {w w' : World} {A : Option Addr} {ks : List XV} (h : RN8 w T A ks) (ho : Off F w w') (hF : ∀ b, T b → ¬ F b) : RN8 w' T A ks := fun h0 => by
 obtain ⟨b, off, e, ht, hb, hl⟩ := h h0
 exact ⟨b, off, e, ht, Nat.lt_of_lt_of_le hb ho.size, XRl.off ho hF ks b off (hF b ht) hl⟩
theorem RN8.mono {T T' : Nat → Prop} {w : World} {A : Option Addr} {ks : List XV} (h : RN8 w T A ks) (hT : ∀ b, T b → T' b) : RN8 w T' A ks := fun h0 => by
 obtain ⟨b, off, e, ht, hb, hl⟩ := h h0
 exact ⟨b, off, e, hT b ht, hb, XRl.mono hT ks b off hl⟩
theorem sc_ne {b S c : Nat} {l : XS} {T : TypeId} {cs : Array Value} {w : World} (hb : Blk b (.cells cs T (0, 0)) w) (h : ScR S c l w) (hT : T ≠ TBi) : b ≠ S := fun e => by
 obtain ⟨cur, hc, _⟩ := h
 subst e
 have := hb.symm.trans hc
 injection this with h1
 injection h1 with _ h2
 exact hT h2
theorem keep_in {R S S' n n' : Nat} {w a b : World} (hS : S < w.heap.size) (hat : S' = S ∨ w.heap.size ≤ S') (hRS : R ≠ S) (ho : Off (fun b => b = R ∨ b = S') a b) (hk : KeepS S' n' a b) (hn : n ≤ n') : KeepS S n a b := by
 rcases hat with h | h
 ·subst h; exact hk.less hn
 ·exact KeepS.off ho (fun e => by rcases e with e | e; exact hRS e.symm; omega)
section
variable {R S cap Z V d M : Nat} {l : XS} {s2 s3 : Bt} {tg : Array Value} {w W W' : World}
theorem SoB.below (h : SoB R S cap Z V d l s2 tg w M W) (hb : Below W.heap.size W W') : SoB R S cap Z V d l s2 tg w M W' :=
 ⟨h.rd.below hb, h.sc.off (Off.of_below hb) (fun h => h), h.ml.below hb, (Off.of_below hb).blk h.var (fun h => h), (Off.of_below hb).blk h.zero (fun h => h), h.off.thenB hb, h.keep.trans (KeepS.off (Off.of_below hb) (fun h => h)), h.newM, h.newZ, h.newV, h.mz, h.mv, h.zv⟩
theorem SoB.atM (h : SoB R S cap Z V d l s2 tg w M W) (N : Nat) (hN : W.heap.size ≤ N) (hw : w.heap.size ≤ W.heap.size) : SoB R S cap Z V d l s2 tg w N W :=
 ⟨h.rd, h.sc, h.ml, h.var, h.zero, h.off, h.keep, by omega, h.newZ, h.newV, by have := h.zero.lt; omega, by have := h.var.lt; omega, h.zv⟩
theorem SoB.scope (h : SoB R S cap Z V d l s2 tg w M W) (hR : 0 ≠ S) (hRS : R ≠ S) (hS : S < w.heap.size) (ho : Off (fun b => b = S) W W') (hk : KeepS S l.length W W') : SoB R S cap Z V d l s2 tg w M W' :=
 ⟨h.rd.off ho hRS, h.sc.keep hk, h.ml.off ho hR, ho.blk h.var (fun e => by have := h.newV; omega), ho.blk h.zero (fun e => by have := h.newZ; omega), h.off.then (ho.mono (fun b e => .inr e)), h.keep.trans hk, h.newM, h.newZ, h.newV, h.mz, h.mv, h.zv⟩
theorem SoB.store (h : SoB R S cap Z V d l s2 tg w M W) (hR : R < w.heap.size) (hS : S < w.heap.size) (_hm : 0 < w.heap.size) (j : Nat) (x : Value) : SoB R S cap Z V d l s2 tg w M (W.setCell ⟨M, j, none⟩ x) := by
 have ho := off_set8 W M j x
 have h1 := h.newM
 exact ⟨h.rd.off ho (by omega), h.sc.off ho (by omega), h.ml.off ho (by omega), ho.blk h.var h.mv.symm, ho.blk h.zero h.mz.symm, h.off.new h1 j x, h.keep.trans (KeepS.off ho (by omega)), h.newM, h.newZ, h.newV, h.mz, h.mv, h.zv⟩
end
set_option maxRecDepth 100000 in
set_option maxHeartbeats 40000000 in
theorem element_some {N : Nat} (hE : ElemC N) {R S cap d : Nat} {l : XS} {s s2 : Bt} {nm : XN} {ms : List XM} {cl : Bool} {w : World} (hI : EIn R S cap d l s w) (hN : s.length ≤ N + 1) (ht : tagX s = some ((nm, ms, cl), s2)) :
    Calls Tryz.prog 53 #[.pointer (some ⟨R, 0, none⟩)] w (EOut R S cap d l w (elemX d l s)) := by
 have hp := tagX_parts ht
 have hB := below_alloc8 w ZN
 have HB := hid hB
 obtain ⟨Z, hZe⟩ : ∃ Z, w.heap.size = Z := ⟨_, rfl⟩
 have hZ : Blk Z ZN (w.alloc ZN) := by have := Blk.new ZN w; rwa [hZe] at this
 have HZ := hid hZ
 have hRl := hI.rd.lt
 have hSl := hI.sc.lt
 have hMl := hI.ml.lt
 have HI := hid hI
 have HT := hid (tag_any (hI.rd.below hB) (hI.ml.below hB) hI.neR (by have := hI.short; omega))
 have HX : Hid (elemX d l s = match startX l nm ms with
       | none => .error 70
       | some (v, sc') => if d = 24 then .error 71 else if cl = true then .ok (v, s2) else
        match kidsX (d + 1) sc' s2 [] [] with
        | .error e => .error e
        | .ok (ks, s3) => match endX nm s3 with
         | none => .error 70
         | some s4 => .ok (v.withKids ks, s4)) := hid (by rw [elem_tag, ht])
 rw [ht] at HT
 unfold TOut at HT
 simp only at HT
 have HS := hid (fun (W : World) (A : Option Addr) (c : Nat) (T : Nat → Prop) (hs : ScR S cap l W) (hr : RC W T A (cM ms)) (hT : ∀ b, T b → b ≠ S) => selem_any (c := c) (cl := cl) (nm := nm) hs (by have := hI.len; omega) (by have := hI.short; omega) hr hT (fun m hm => by have := hp.2.2.1 m hm; have := hI.short; exact ⟨by omega, by omega⟩) hI.small (fun m hm => by have := hp.2.2.1 m hm; have := hI.short; omega))
 have HP := hid hp
 have HE := hid hE
 have HNN := hid hN
 obtain ⟨nL, hnL⟩ : ∃ n, l.length = n := ⟨_, rfl⟩
 obtain ⟨nM, hnM⟩ : ∃ n, ms.length = n := ⟨_, rfl⟩
 have HNL := hid hnL
 have HNM := hid hnM
 have HZE := hid hZe
 clear ht hI hB hZ hp hE hN
 go_enter Tryz.func53, Tryz.ntmps53
 go_wp2_with (go_at_call 80; (with_reducible refine HT.out.mono ?_); rintro e w1 ⟨o1, r1, tA, tc, rfl, hrc⟩; have HO1 := hid o1; have HR1 := hid r1; have HRC := hid hrc; clear o1 r1 hrc)
 obtain ⟨V, hV⟩ : ∃ V, w1.heap.size = V := ⟨_, rfl⟩
 have hB1 := below_alloc8 w1 (.cells #[sV nm.1, sV nm.2, .slice tA nM tc, .bool cl] TTg (0, 0))
 have hsz0 : w.heap.size < w1.heap.size := by have h1 := HO1.out.size; have h2 := HZ.out.lt; have h3 := HB.out.size; have h4 := HZE.out; omega
 have hB2 : SoB R S cap Z V d l s2 #[sV nm.1, sV nm.2, .slice tA nM tc, .bool cl] w (V + 1) (w1.alloc (.cells #[sV nm.1, sV nm.2, .slice tA nM tc, .bool cl] TTg (0, 0))) := by
  have o0 : Off (fun b => b = R) w w1 := (Off.ofB HB.out).then HO1.out
  refine ⟨HR1.out.below hB1, (HI.out.sc.off o0 (fun e => HI.out.ne e.symm)).off (Off.of_below hB1) (fun h => h), (HI.out.ml.off o0 HI.out.neR).below hB1, ?_, (HO1.out.blk HZ.out (fun e => by have := HZE.out; omega)).alloc8, (o0.mono (fun b e => .inl e)).thenB hB1, (KeepS.off o0 (fun e => HI.out.ne e.symm)).trans (KeepS.off (Off.of_below hB1) (fun h => h)), by omega, by have := HZE.out; omega, by omega, by have := HZE.out; omega, by omega, by have := HZE.out; omega⟩
  have := Blk.new (.cells #[sV nm.1, sV nm.2, .slice tA nM tc, .bool cl] TTg (0, 0)) w1
  rwa [hV] at this
 have hRC2 := (HRC.out.below hB1 : RC (w1.alloc (.cells #[sV nm.1, sV nm.2, .slice tA nM tc, .bool cl] TTg (0, 0))) _ tA (cM ms))
 have hsz2 : (w1.alloc (.cells #[sV nm.1, sV nm.2, .slice tA nM tc, .bool cl] TTg (0, 0))).heap.size = V + 1 := by simp [hV]
 clear hB1 HR1 HO1 HRC
 rw [hV] at hsz0 ⊢
 generalize w1.alloc (.cells #[sV nm.1, sV nm.2, .slice tA nM tc, .bool cl] TTg (0, 0)) = w2 at *
 clear hV w1
 have HTa : Hid (∀ b, (w.alloc ZN).heap.size ≤ b → b ≠ S) := hid (fun b hb e => by have := HB.out.size; omega)
 have HA : Hid (∀ M W, SoB R S cap Z V d l s2 #[sV nm.1, sV nm.2, .slice tA nM tc, .bool cl] w M W → (W.cell? ⟨R, 2, none⟩ = some (ScV S nL cap)) ∧ (W.cell? ⟨V, 0, none⟩ = some (sV nm.1) ∧ W.cell? ⟨V, 1, none⟩ = some (sV nm.2) ∧ W.cell? ⟨V, 2, none⟩ = some (.slice tA nM tc) ∧ W.cell? ⟨V, 3, none⟩ = some (.bool cl))) := hid (fun M W hW => ⟨by rw [hW.rd.c2, HNL.out], hW.var.cell 0, hW.var.cell 1, hW.var.cell 2, hW.var.cell 3⟩)
 refine wp_region_held_drew (S := fun W => (W.cell? ⟨R, 2, none⟩ = some (ScV S nL cap)) ∧ (W.cell? ⟨V, 0, none⟩ = some (sV nm.1) ∧ W.cell? ⟨V, 1, none⟩ = some (sV nm.2) ∧ W.cell? ⟨V, 2, none⟩ = some (.slice tA nM tc) ∧ W.cell? ⟨V, 3, none⟩ = some (.bool cl))) (by kernel_rfl) (HA.out _ _ (hB2.below (Below.drew (Below.refl _ _)))) (fun hHeld => ?_)
 have B0 := hB2.below (Below.drew (Below.refl _ w2))
 have C0 := (hRC2.below (Below.drew (Below.refl _ w2)) : RC w2.drew _ tA (cM ms))
 have s0 : w2.drew.heap.size = V + 1 := hsz2
 clear hB2 hRC2 hsz2
 generalize w2.drew = w0 at *
 clear w2
 refine wpAnyH_take (i := 0) (v := .pointer (some ⟨R, 0, none⟩)) rfl (by kernel_rfl) (by kernel_rfl) (by kernel_rfl) (fun _ _ _ h => h) (Or.inl ⟨by rfl, by intro w hSw; (try dsimp only at hSw); go_simp⟩) hHeld ?_
 change wpAnyH _ _ _ _ _ _ _ (Act.put _ (some 19) _) _
 try simp only [Act.put, zA8, zB8, zC8]
 refine wpAnyH_take (i := 1) (v := .pointer (some ⟨R, 0, none⟩)) rfl (by kernel_rfl) (by kernel_rfl) (by kernel_rfl) (fun _ _ _ h => h) (Or.inl ⟨by rfl, by intro w hSw; (try dsimp only at hSw); go_simp⟩) hHeld ?_
 change wpAnyH _ _ _ _ _ _ _ (Act.put _ (some 20) _) _
 try simp only [Act.put, zA8, zB8, zC8]
 refine wpAnyH_take (i := 2) (v := .pointer (some ⟨R, 2, none⟩)) rfl (by kernel_rfl) (by kernel_rfl) (by kernel_rfl) (fun _ _ _ h => h) (Or.inl ⟨by rfl, by intro w hSw; (try dsimp only at hSw); go_simp⟩) hHeld ?_
 change wpAnyH _ _ _ _ _ _ _ (Act.put _ (some 21) _) _
 try simp only [Act.put, zA8, zB8, zC8]
 refine wpAnyH_take (i := 3) (v := ScV S nL cap) rfl (by kernel_rfl) (by kernel_rfl) (by kernel_rfl) (fun _ _ _ h => h) (Or.inl ⟨by rfl, by intro w hSw; (try dsimp only at hSw); go_simp⟩) hHeld ?_
 change wpAnyH _ _ _ _ _ _ _ (Act.put _ (some 22) _) _
 try simp only [Act.put, zA8, zB8, zC8]
 refine wpAnyH_take (i := 4) (v := .agg #[sV nm.1, sV nm.2, .slice tA nM tc, .bool cl]) rfl (by kernel_rfl) (by kernel_rfl) (by kernel_rfl) (fun _ _ _ h => h) (Or.inl ⟨by rfl, by intro w hSw; (try dsimp only at hSw); go_simp⟩) hHeld ?_
 change wpAnyH _ _ _ _ _ _ _ (Act.put _ (some 23) _) _
 try simp only [Act.put, zA8, zB8, zC8]
 refine orders_meetP (α := P5) (f := 3) (l := #[true, true, true, true, true, true, true, true, true, true, true, false, false, false]) (fun p => { tmps := #[.pointer (some ⟨R, 0, none⟩), undef, .pointer (some ⟨Z, 0, none⟩), .int .i64 0, .pointer (some ⟨V, 0, none⟩), .bool true, .pointer (some ⟨p.M, 0, none⟩), undef, undef, undef, .tuple #[.agg #[sV nm.1, sV nm.2, .slice tA nM tc, .bool cl], .bool true], .pointer (some ⟨R, 0, none⟩), .tuple #[.agg #[sV nm.1, sV nm.2, .slice tA nM tc, .bool cl], .bool true], .agg #[sV nm.1, sV nm.2, .slice tA nM tc, .bool cl], .bool true, .bool true, .bool false, undef, .tuple #[.agg #[sV p.x0, sV p.x1, .slice p.A2 p.n2 p.c2, .slice p.A3 p.n3 p.c3, sV p.x4], .slice p.A p.n p.c, .bool p.b], .pointer (some ⟨R, 0, none⟩), .pointer (some ⟨R, 0, none⟩), .pointer (some ⟨R, 2, none⟩), ScV S nL cap, .agg #[sV nm.1, sV nm.2, .slice tA nM tc, .bool cl], .tuple #[.agg #[sV p.x0, sV p.x1, .slice p.A2 p.n2 p.c2, .slice p.A3 p.n3 p.c3, sV p.x4], .slice p.A p.n p.c, .bool p.b], .agg #[sV p.x0, sV p.x1, .slice p.A2 p.n2 p.c2, .slice p.A3 p.n3 p.c3, sV p.x4], .slice p.A p.n p.c, .bool p.b, undef, undef, undef, undef, undef, undef, undef, undef, undef, undef, undef, undef, undef, undef, undef, undef, undef, undef, undef, undef, undef, undef, undef, undef, undef, undef, undef, undef, undef, undef, undef, undef, undef, undef, undef, undef, undef, undef, undef, undef, undef, undef, undef, undef, undef, undef, undef, undef, undef, undef, undef, undef, undef, undef], defers := [] }) (fun p W => SoB R S cap Z V d l s2 #[sV nm.1, sV nm.2, .slice tA nM tc, .bool cl] w p.M W ∧ Blk p.M ZN W ∧ SoX w l nm ms S Z V p W) (fun p W hW => ?rest) (fun HM => ?here)
 case here =>
  refine wpAnyH_ready (rs := [5, 10]) (by kernel_rfl) (by simp) ?_
  refine AllReadyH.cons (o := { dst := some 24, op := .call { callee := .value (.func 81), args := #[.tmp 22, .tmp 23], argTypes := _ }, type := _, pos := _, after := _, guard := none }) rfl (fun K hK => ?_) ?_
  ·-- the call first
   go_simp
   have hcall := HS.out w0 tA tc _ B0.sc C0 HTa.out
   rw [HNL.out, HNM.out] at hcall
   (with_reducible refine hcall.mono ?_)
   intro e w3 hso
   clear hcall
   have hso2 := hso
   obtain ⟨o3, k3, _⟩ := hso2
   obtain ⟨p, hpM, rfl, hx⟩ := so_form (w := w) (Z := Z) (V := V) (M := w3.heap.size) (by omega) B0.zero.lt B0.var.lt (.inr (Nat.le_refl _)) hso
   have B3 := (B0.scope HI.out.neS HI.out.ne hSl o3 k3).atM w3.heap.size (Nat.le_refl _) (by have := o3.size; omega)
   clear hso o3 k3
   refine hK.out _ _ (HA.out _ _ B3) (fun hHeld => ?_)
   clear hK K
   try simp only [Act.put, zA8, zB8, zC8]
   refine wpAnyH_take (i := 6) (v := .tuple #[.agg #[sV p.x0, sV p.x1, .slice p.A2 p.n2 p.c2, .slice p.A3 p.n3 p.c3, sV p.x4], .slice p.A p.n p.c, .bool p.b]) rfl (by kernel_rfl) (by kernel_rfl) (by kernel_rfl) (fun _ _ _ h => h) (Or.inl ⟨by rfl, by intro w hSw; (try dsimp only at hSw); go_simp⟩) hHeld ?_
   change wpAnyH _ _ _ _ _ _ _ (Act.put _ (some 18) _) _
   try simp only [Act.put, zA8, zB8, zC8]
   refine wpAnyH_take (i := 7) (v := .agg #[sV p.x0, sV p.x1, .slice p.A2 p.n2 p.c2, .slice p.A3 p.n3 p.c3, sV p.x4]) rfl (by kernel_rfl) (by kernel_rfl) (by kernel_rfl) (fun _ _ _ h => h) (Or.inl ⟨by rfl, by intro w hSw; (try dsimp only at hSw); go_simp⟩) hHeld ?_
   change wpAnyH _ _ _ _ _ _ _ (Act.put _ (some 25) _) _
   try simp only [Act.put, zA8, zB8, zC8]
   refine wpAnyH_take (i := 8) (v := .slice p.A p.n p.c) rfl (by kernel_rfl) (by kernel_rfl) (by kernel_rfl) (fun _ _ _ h => h) (Or.inl ⟨by rfl, by intro w hSw; (try dsimp only at hSw); go_simp⟩) hHeld ?_
   change wpAnyH _ _ _ _ _ _ _ (Act.put _ (some 26) _) _
   try simp only [Act.put, zA8, zB8, zC8]
   refine wpAnyH_take (i := 9) (v := .bool p.b) rfl (by kernel_rfl) (by kernel_rfl) (by kernel_rfl) (fun _ _ _ h => h) (Or.inl ⟨by rfl, by intro w hSw; (try dsimp only at hSw); go_simp⟩) hHeld ?_
   change wpAnyH _ _ _ _ _ _ _ (Act.put _ (some 27) _) _
   try simp only [Act.put, zA8, zB8, zC8]
   refine wpAnyH_ready (rs := [10]) (by kernel_rfl) (by simp) ?_
   refine AllReadyH.cons (o := { dst := some 6, op := .alloc TNo, type := _, pos := _, after := _, guard := none }) rfl (fun K hK => ?_) AllReadyH.nil
   go_simp
   have B4 := B3.below (below_alloc8 w3 ZN)
   have Z4 := Blk.new ZN w3
   refine hK.out _ _ (HA.out _ _ B4) (fun hHeld => ?_)
   clear hK K
   try simp only [Act.put, zA8, zB8, zC8]
   rw [← hpM] at B4 Z4 ⊢
   refine HM p _ ⟨B4, Z4, ?_⟩
   exact hx.below (below_alloc8 w3 ZN)
  ·-- the variable first
   refine AllReadyH.cons (o := { dst := some 6, op := .alloc TNo, type := _, pos := _, after := _, guard := none }) rfl (fun K hK => ?_) AllReadyH.nil
   go_simp
   have B3 := B0.below (below_alloc8 w0 ZN)
   have C3 := C0.below (below_alloc8 w0 ZN)
   have Z3 : Blk (V + 1) ZN (w0.alloc ZN) := by have := Blk.new ZN w0; rwa [s0] at this
   have s3 : (w0.alloc ZN).heap.size = V + 2 := by simp [s0]
   generalize w0.alloc ZN = w3 at *
   refine hK.out _ _ (HA.out _ _ B3) (fun hHeld => ?_)
   clear hK K
   try simp only [Act.put, zA8, zB8, zC8]
   refine wpAnyH_ready (rs := [5]) (by kernel_rfl) (by simp) ?_
   refine AllReadyH.cons (o := { dst := some 24, op := .call { callee := .value (.func 81), args := #[.tmp 22, .tmp 23], argTypes := _ }, type := _, pos := _, after := _, guard := none }) rfl (fun K hK => ?_) AllReadyH.nil
   go_simp
   have hcall := HS.out w3 tA tc _ B3.sc C3 HTa.out
   rw [HNL.out, HNM.out] at hcall
   (with_reducible refine hcall.mono ?_)
   intro e w4 hso
   clear hcall
   have hso2 := hso
   obtain ⟨o4, k4, _⟩ := hso2
   obtain ⟨p, hpM, rfl, hx⟩ := so_form (w := w) (Z := Z) (V := V) (M := V + 1) (by omega) B3.zero.lt B3.var.lt (.inl (by omega)) hso
   have B4 := B3.scope HI.out.neS HI.out.ne hSl o4 k4
   have Z4 := o4.blk Z3 (fun e => by omega)
   clear hso o4 k4
   refine hK.out _ _ (HA.out _ _ B4) (fun hHeld => ?_)
   clear hK K
   try simp only [Act.put, zA8, zB8, zC8]
   refine wpAnyH_take (i := 6) (v := .tuple #[.agg #[sV p.x0, sV p.x1, .slice p.A2 p.n2 p.c2, .slice p.A3 p.n3 p.c3, sV p.x4], .slice p.A p.n p.c, .bool p.b]) rfl (by kernel_rfl) (by kernel_rfl) (by kernel_rfl) (fun _ _ _ h => h) (Or.inl ⟨by rfl, by intro w hSw; (try dsimp only at hSw); go_simp⟩) hHeld ?_
   change wpAnyH _ _ _ _ _ _ _ (Act.put _ (some 18) _) _
   try simp only [Act.put, zA8, zB8, zC8]
   refine wpAnyH_take (i := 7) (v := .agg #[sV p.x0, sV p.x1, .slice p.A2 p.n2 p.c2, .slice p.A3 p.n3 p.c3, sV p.x4]) rfl (by kernel_rfl) (by kernel_rfl) (by kernel_rfl) (fun _ _ _ h => h) (Or.inl ⟨by rfl, by intro w hSw; (try dsimp only at hSw); go_simp⟩) hHeld ?_
   change wpAnyH _ _ _ _ _ _ _ (Act.put _ (some 25) _) _
   try simp only [Act.put, zA8, zB8, zC8]
   refine wpAnyH_take (i := 8) (v := .slice p.A p.n p.c) rfl (by kernel_rfl) (by kernel_rfl) (by kernel_rfl) (fun _ _ _ h => h) (Or.inl ⟨by rfl, by intro w hSw; (try dsimp only at hSw); go_simp⟩) hHeld ?_
   change wpAnyH _ _ _ _ _ _ _ (Act.put _ (some 26) _) _
   try simp only [Act.put, zA8, zB8, zC8]
   refine wpAnyH_take (i := 9) (v := .bool p.b) rfl (by kernel_rfl) (by kernel_rfl) (by kernel_rfl) (fun _ _ _ h => h) (Or.inl ⟨by rfl, by intro w hSw; (try dsimp only at hSw); go_simp⟩) hHeld ?_
   change wpAnyH _ _ _ _ _ _ _ (Act.put _ (some 27) _) _
   try simp only [Act.put, zA8, zB8, zC8]
   rw [← hpM] at B4 Z4 ⊢
   exact HM p _ ⟨B4, Z4, hx⟩
 case rest =>
  obtain ⟨B1, Z1, hx⟩ := hW
  clear B0 C0 s0 hHeld HTa HB HZ HT HS w0
  obtain ⟨M, x0, x1, A2, n2, c2, A3, n3, c3, x4, A, n, c, b⟩ := p
  simp only at B1 Z1 hx ⊢
  have q0 := Z1.cell 0
  have q1 := Z1.cell 1
  have q2 := Z1.cell 2
  have q3 := Z1.cell 3
  have q4 := Z1.cell 4
  have f0 := Z1.free 0
  have f1 := Z1.free 1
  have f2 := Z1.free 2
  have f3 := Z1.free 3
  have f4 := Z1.free 4
  refine wpAnyH_ready (rs := [11]) (by kernel_rfl) (by simp) ?_
  refine AllReadyH.cons (o := { dst := none, op := .store TNo (.tmp 6) (.tmp 25), type := _, pos := _, after := _, guard := none }) rfl (fun K hK => ?_) AllReadyH.nil
  go_simp
  have N2 := five_set (a := sV x0) (b := sV x1) (c := .slice A2 n2 c2) (d := .slice A3 n3 c3) (e := sV x4) Z1
  have B2 := ((((B1.store hRl hSl hMl 0 (sV x0)).store hRl hSl hMl 1 (sV x1)).store hRl hSl hMl 2 (.slice A2 n2 c2)).store hRl hSl hMl 3 (.slice A3 n3 c3)).store hRl hSl hMl 4 (sV x4)
  have o2 := ((((off_set8 W M 0 (sV x0)).then (off_set8 _ M 1 (sV x1))).then (off_set8 _ M 2 (.slice A2 n2 c2))).then (off_set8 _ M 3 (.slice A3 n3 c3))).then (off_set8 _ M 4 (sV x4))
  have hx2 := hx.off o2 (fun b hb => .inl hb) B1.newM (.inl Z1) hSl
  clear q0 q1 q2 q3 q4 f0 f1 f2 f3 f4 o2 Z1 hx B1
  refine hK.out _ _ (HA.out _ _ B2) (fun hHeld => ?_)
  clear hK K
  try simp only [zA8, zB8, zC8]
  refine wpAnyH_take (i := 12) (v := .slice A n c) rfl (by kernel_rfl) (by kernel_rfl) (by kernel_rfl) (fun _ _ _ h => h) (Or.inl ⟨by rfl, by intro w hSw; (try dsimp only at hSw); go_simp⟩) hHeld ?_
  change wpAnyH _ _ _ _ _ _ _ (Act.put _ (some 7) _) _
  try simp only [Act.put, zA8, zB8, zC8]
  refine wpAnyH_take (i := 13) (v := .bool b) rfl (by kernel_rfl) (by kernel_rfl) (by kernel_rfl) (fun _ _ _ h => h) (Or.inl ⟨by rfl, by intro w hSw; (try dsimp only at hSw); go_simp⟩) hHeld ?_
  change wpAnyH _ _ _ _ _ _ _ (Act.put _ (some 5) _) _
  try simp only [Act.put, zA8, zB8, zC8]
  refine wpAnyH_done (by kernel_rfl) ?_ _
  have HB2 := hid B2
  have HN2 := hid N2
  have hx3 := hx2
  unfold SoX at hx3
  clear hx2 B2 N2 hHeld HA
  generalize ((((W.setCell ⟨M, 0, none⟩ (sV x0)).setCell ⟨M, 1, none⟩ (sV x1)).setCell ⟨M, 2, none⟩ (.slice A2 n2 c2)).setCell ⟨M, 3, none⟩ (.slice A3 n3 c3)).setCell ⟨M, 4, none⟩ (sV x4) = w5 at *
  have hMw := HB2.out.newM
  have hZw := HB2.out.newZ
  have hMZ := HB2.out.mz
  have hMV := HB2.out.mv
  have hZV := HB2.out.zv
  have hVw := HB2.out.newV
  clear W
  cases hsx : startX l nm ms with
  | none =>
   rw [hsx] at hx3
   simp only at hx3
   subst hx3
   have HO : Hid (elemX d l s = .error 70) := hid (by rw [HX.out, hsx])
   clear HX hsx
   have z0 := HB2.out.zero.cell 0
   have z1 := HB2.out.zero.cell 1
   have z2 := HB2.out.zero.cell 2
   have z3 := HB2.out.zero.cell 3
   have z4 := HB2.out.zero.cell 4
   have zf0 := HB2.out.zero.free 0
   have zf1 := HB2.out.zero.free 1
   have zf2 := HB2.out.zero.free 2
   have zf3 := HB2.out.zero.free 3
   have zf4 := HB2.out.zero.free 4
   have zl := HB2.out.zero.lt
   go_wp2
   have hE := (five_set (a := .string ⟨#[]⟩) (b := .string ⟨#[]⟩) (c := .slice none 0 0) (d := .slice none 0 0) (e := .string ⟨#[]⟩) HB2.out.zero)
   have d0 := hE.cell 0
   have d1 := hE.cell 1
   have d2 := hE.cell 2
   have d3 := hE.cell 3
   have d4 := hE.cell 4
   refine bodyPost_ret (v := .tuple #[zNV, .int .i64 70]) ?_ rfl ?_
   ·simp [results, Tryz.results53, go_sem, d0, d1, d2, d3, d4]
   exact EOut.bad HO.out (by decide) (((((HB2.out.off.new hZw _ _).new hZw _ _).new hZw _ _).new hZw _ _).new hZw _ _)
  | some y =>
   obtain ⟨nd, l2⟩ := y
   rw [hsx] at hx3
   obtain ⟨S2, e1, e2, e3, e4, e5, e6, e7, e8, e9, e10, hsc, hat, hrc⟩ := hx3
   simp only at e1 e2 e3 e4 e5 e6 e7 e8 e9 e10 hsc hrc
   have HS2 := hid (start_scope hsx)
   have HX2 : Hid (elemX d l s = if d = 24 then .error 71 else if cl = true then .ok (nd, s2) else
         match kidsX (d + 1) l2 s2 [] [] with
         | .error e => .error e
         | .ok (ks, s3) => match endX nm s3 with
          | none => .error 70
          | some s4 => .ok (nd.withKids ks, s4)) := hid (by rw [HX.out, hsx])
   subst e10; subst e1; subst e2; subst e4; subst e5; subst e6; subst e7; subst e8
   have HE3 := hid e3
   have HE9 := hid e9
   have HSC := hid hsc
   have HRC := hid hrc
   have hat2 := hat
   clear HX hsx e3 e9 hsc hrc
   by_cases hd : d = 24
   ·subst hd
    have HO : Hid (elemX 24 l s = .error 71) := hid (by rw [HX2.out, if_pos rfl])
    clear HX2
    have r1 := HB2.out.rd.c1
    have z0 := HB2.out.zero.cell 0
    have z1 := HB2.out.zero.cell 1
    have z2 := HB2.out.zero.cell 2
    have z3 := HB2.out.zero.cell 3
    have z4 := HB2.out.zero.cell 4
    have zf0 := HB2.out.zero.free 0
    have zf1 := HB2.out.zero.free 1
    have zf2 := HB2.out.zero.free 2
    have zf3 := HB2.out.zero.free 3
    have zf4 := HB2.out.zero.free 4
    have zl := HB2.out.zero.lt
    go_wp2
    have hE := (five_set (a := .string ⟨#[]⟩) (b := .string ⟨#[]⟩) (c := .slice none 0 0) (d := .slice none 0 0) (e := .string ⟨#[]⟩) HB2.out.zero)
    have d0 := hE.cell 0
    have d1 := hE.cell 1
    have d2 := hE.cell 2
    have d3 := hE.cell 3
    have d4 := hE.cell 4
    refine bodyPost_ret (v := .tuple #[zNV, .int .i64 71]) ?_ rfl ?_
    ·simp [results, Tryz.results53, go_sem, d0, d1, d2, d3, d4]
    exact EOut.bad HO.out (by decide) (((((HB2.out.off.new hZw _ _).new hZw _ _).new hZw _ _).new hZw _ _).new hZw _ _)
   ·have hd1 : ¬ ((d : Int) = 24) := by omega
    have hd2 : ((d : Int) == 24) = false := by rw [beq_eq_false_iff_ne]; omega
    cases cl with
    | true =>
     have HO : Hid (elemX d l s = .ok (nd, s2)) := hid (by rw [HX2.out, if_neg hd, if_pos rfl])
     clear HX2
     have r1 := HB2.out.rd.c1
     have v3 : w5.cell? ⟨V, 3, none⟩ = some (.bool true) := HB2.out.var.cell 3
     have z0 := HB2.out.zero.cell 0
     have z1 := HB2.out.zero.cell 1
     have z2 := HB2.out.zero.cell 2
     have z3 := HB2.out.zero.cell 3
     have z4 := HB2.out.zero.cell 4
     have zf0 := HB2.out.zero.free 0
     have zf1 := HB2.out.zero.free 1
     have zf2 := HB2.out.zero.free 2
     have zf3 := HB2.out.zero.free 3
     have zf4 := HB2.out.zero.free 4
     have zl := HB2.out.zero.lt
     have m0 := HN2.out.cell 0
     have m1 := HN2.out.cell 1
     have m2 := HN2.out.cell 2
     have m3 := HN2.out.cell 3
     have m4 := HN2.out.cell 4
     have mf0 := HN2.out.free 0
     have mf1 := HN2.out.free 1
     have mf2 := HN2.out.free 2
     have mf3 := HN2.out.free 3
     have mf4 := HN2.out.free 4
     have ml := HN2.out.lt
     go_wp2
     have hE := five_set (a := sV nd.space) (b := sV nd.name) (c := .slice A2 n2 c2) (d := .slice none 0 0) (e := sV []) HB2.out.zero
     have d0 := hE.cell 0
     have d1 := hE.cell 1
     have d2 := hE.cell 2
     have d3 := hE.cell 3
     have d4 := hE.cell 4
     refine bodyPost_ret (v := .tuple #[.agg #[sV nd.space, sV nd.name, .slice A2 n2 c2, .slice none 0 0, sV []], .int .i64 0]) ?_ rfl ?_
     ·simp [results, Tryz.results53, go_sem, d0, d1, d2, d3, d4]
     have oz := ((((off_set8 w5 Z 0 (sV nd.space)).then (off_set8 _ Z 1 (sV nd.name))).then (off_set8 _ Z 2 (.slice A2 n2 c2))).then (off_set8 _ Z 3 (.slice none 0 0))).then (off_set8 _ Z 4 (sV []))
     have e3 := HE3.out
     subst e3
     refine ⟨(((((HB2.out.off.new hZw _ _).new hZw _ _).new hZw _ _).new hZw _ _).new hZw _ _), ?_⟩
     rw [HO.out]
     refine ⟨HB2.out.rd.off oz (by omega), HB2.out.keep.trans (KeepS.off oz (by omega)), _, rfl, ?_⟩
     refine xr_node HS2.out.2.1 HS2.out.2.2 ?_
     exact ((HRC.out.off oz (fun b hb e => hb.2.2.1 e)).lt.mono (fun b hb => ⟨hb.1.1.1, hb.2⟩))
    | false =>
     have HX3 : Hid (elemX d l s = match kidsX (d + 1) l2 s2 [] [] with
           | .error e => .error e
           | .ok (ks, s3) => match endX nm s3 with
            | none => .error 70
            | some s4 => .ok (nd.withKids ks, s4)) := hid (by rw [HX2.out, if_neg hd, if_neg (by decide)])
     clear HX2
     have hRS2 : R ≠ S2 := by rcases hat with h | h; rw [h]; exact HI.out.ne; omega
     have hmS2 : 0 ≠ S2 := by rcases hat with h | h; rw [h]; exact HI.out.neS; omega
     have hdl := HI.out.deep
     have r1 := HB2.out.rd.c1
     have r2 : w5.cell? ⟨R, 2, none⟩ = some (ScV S nL cap) := by rw [HB2.out.rd.c2, HNL.out]
     have rf1 := HB2.out.rd.free 1
     have rf2 := HB2.out.rd.free 2
     have v3 : w5.cell? ⟨V, 3, none⟩ = some (.bool false) := HB2.out.var.cell 3
     have o6 : Off (fun b => b = R) w5 ((w5.setCell ⟨R, 2, none⟩ (ScV S2 n c)).setCell ⟨R, 1, none⟩ (.int .i64 ((d : Int) + 1))) := (off_set8 _ _ _ _).then (off_set8 _ _ _ _)
     have hl2 : l2.length ≤ l.length + ms.length := by rw [HS2.out.1, List.length_append]; have := decls_len ms; omega
     have hE6 : EIn R S2 c (d + 1) l2 s2 ((w5.setCell ⟨R, 2, none⟩ (ScV S2 n c)).setCell ⟨R, 1, none⟩ (.int .i64 ((d : Int) + 1))) := by
      refine ⟨?_, HSC.out.off o6 (fun e => hRS2 e.symm), HB2.out.ml.off o6 HI.out.neR, HI.out.neR, hmS2, hRS2, ?_, ?_, ?_, by omega⟩
      ·rw [← HE9.out]
       exact (HB2.out.rd.set2 (ScV S2 n c)).set1 (d + 1)
      ·have := HP.out.2.2.2; have := HI.out.len; omega
      ·have := HP.out.2.2.2; have := HI.out.short; omega
      ·rw [HS2.out.1]
       intro q hq
       rcases List.mem_append.1 hq with hq | hq
       ·exact HI.out.small q hq
       ·obtain ⟨m, hm, he⟩ := decl_val hq
        have := HP.out.2.2.1 m hm
        have := HI.out.short
        rw [he]
        omega
     have HKc := hid (content_any HE.out hE6 (by have := HP.out.2.2.2; have := HNN.out; omega))
     have hZS2 : Z ≠ S2 := sc_ne HB2.out.zero HSC.out (by decide)
     have hMS2 : M ≠ S2 := sc_ne HN2.out HSC.out (by decide)
     have hVS2 : V ≠ S2 := sc_ne HB2.out.var HSC.out (by decide)
     have HO6 := hid o6
     clear hE6 o6
     obtain ⟨w6, hw6⟩ : ∃ W, (w5.setCell ⟨R, 2, none⟩ (ScV S2 n c)).setCell ⟨R, 1, none⟩ (.int .i64 ((d : Int) + 1)) = W := ⟨_, rfl⟩
     rw [hw6] at HKc HO6
     unfold KOut at HKc
     have hd3 : ((d : Int) + 1) ≤ 30 := by omega
     have hd4 : (0 : Int) ≤ (d : Int) := by omega
     cases hkk : kidsX (d + 1) l2 s2 [] [] with
     | error k =>
      have HO : Hid (elemX d l s = .error k) := hid (by rw [HX3.out, hkk])
      rw [hkk] at HKc
      simp only at HKc
      clear HX3 hkk
      go_wp2_with (go_at_call 82; (with_reducible refine HKc.out.mono ?_); rintro e w7 ⟨o7, hk7, rfl⟩; have z7 := o7.blk (HO6.out.blk HB2.out.zero (by omega)) (by omega); have m7 := o7.blk (HO6.out.blk HN2.out (by omega)) (by omega); have z0 := z7.cell 0; have z1 := z7.cell 1; have z2 := z7.cell 2; have z3 := z7.cell 3; have z4 := z7.cell 4; have zf0 := z7.free 0; have zf1 := z7.free 1; have zf2 := z7.free 2; have zf3 := z7.free 3; have zf4 := z7.free 4; have zl := z7.lt; have m3 := m7.cell 3; have mf3 := m7.free 3; have ml := m7.lt; have HZ7 := hid z7; have HO7 : Hid (Off (fun b => b = R ∨ b = S) w w7) := hid ((HB2.out.off.then (HO6.out.mono (fun b e => Or.inl e))).trans o7 (fun b e => e.elim (fun e => Or.inl (Or.inl e)) (fun e => hat2.elim (fun h => Or.inl (Or.inr (e.trans h))) (fun h => Or.inr (by omega))))); clear o7 z7 m7)
      have hE := (five_set (a := .string ⟨#[]⟩) (b := .string ⟨#[]⟩) (c := .slice none 0 0) (d := .slice none 0 0) (e := .string ⟨#[]⟩) ((off_set8 w7 M 3 (.slice none 0 0)).blk HZ7.out hMZ.symm))
      have d0 := hE.cell 0
      have d1 := hE.cell 1
      have d2 := hE.cell 2
      have d3 := hE.cell 3
      have d4 := hE.cell 4
      refine bodyPost_ret (v := .tuple #[zNV, .int .i64 k]) ?_ rfl ?_
      ·simp [results, Tryz.results53, go_sem, d0, d1, d2, d3, d4]
      exact EOut.bad HO.out hk7 ((((((HO7.out.new hMw 3 _).new hZw _ _).new hZw _ _).new hZw _ _).new hZw _ _).new hZw _ _)
     | ok y =>
      obtain ⟨ks, s3⟩ := y
      have HX4 : Hid (elemX d l s = match endX nm s3 with
              | none => .error 70
              | some s4 => .ok (nd.withKids ks, s4)) := hid (by rw [HX3.out, hkk])
      rw [hkk] at HKc
      simp only at HKc
      clear HX3 hkk
      obtain ⟨nK, hnK⟩ : ∃ n, ks.length = n := ⟨_, rfl⟩
      rw [hnK] at HKc
      have HNK := hid hnK
      have HEnd := hid (fun W (hW : RS R s3 d (ScV S nL cap) W) => endOf_any hW nm tA nM tc false (by have := HP.out.1; have := HI.out.short; omega) (by have := HP.out.2.1; have := HI.out.short; omega))
      unfold RdO at HEnd
      have hRV : R ≠ V := by omega
      have hRM : R ≠ M := by omega
      have hRZ : R ≠ Z := by omega
      have hMR : M ≠ R := by omega
      have hVR : V ≠ R := by omega
      have hVM : V ≠ M := hMV.symm
      have hd5 : (d : Int) + 1 - 1 = (d : Int) := by omega
      clear hnK
      cases hen : endX nm s3 with
      | none =>
       have HO : Hid (elemX d l s = .error 70) := hid (by rw [HX4.out, hen])
       rw [hen] at HEnd
       simp only [Option.isSome_none] at HEnd
       clear HX4 hen
       go_wp2_with (first
        | (go_at_call 82; (with_reducible refine HKc.out.mono ?_); rintro e w7 ⟨o7, r7, k7, kA, kc, rfl, hrn⟩; have z7 := o7.blk (HO6.out.blk HB2.out.zero (by omega)) (by omega); have m7 := o7.blk (HO6.out.blk HN2.out (by omega)) (by omega); have v7 := o7.blk (HO6.out.blk HB2.out.var (by omega)) (by omega); have q1 : w7.cell? ⟨R, 1, none⟩ = some (.int .i64 ((d : Int) + 1)) := r7.c1; have q2 := r7.c2; have qf1 := r7.free 1; have qf2 := r7.free 2; have m3 := m7.cell 3; have mf3 := m7.free 3; have u0 := v7.cell 0; have u1 := v7.cell 1; have u2 := v7.cell 2; have u3 := v7.cell 3; have HZ7 := hid z7; have HM7 := hid m7; have HQ7 := hid (And.intro o7 (And.intro r7 (And.intro k7 hrn))); clear z7 m7 v7 o7 r7 k7 hrn)
        | (go_at_call 83; (with_reducible refine (HEnd.out _ (((HQ7.out.2.1.off (off_set8 _ M 3 _) hRM).set1 d).set2 _)).mono ?_); rintro e w9 ⟨rfl, _, o9⟩; have o79 : Off (fun b => b = M ∨ b = R) w7 w9 := ((((off_set8 w7 M 3 (.slice kA nK kc)).mono (fun _ e => Or.inl e)).then ((off_set8 _ R 1 (.int .i64 (d : Int))).mono (fun _ e => Or.inr e))).then ((off_set8 _ R 2 (ScV S nL cap)).mono (fun _ e => Or.inr e))).then (o9.mono (fun _ e => Or.inr e)); have z9 := o79.blk HZ7.out (fun e => e.elim (fun e => hMZ e.symm) (fun e => hRZ e.symm)); have HO9 : Hid (Off (fun b => b = R ∨ b = S) w w9) := hid (((HB2.out.off.then (HO6.out.mono (fun b e => Or.inl e))).trans HQ7.out.1 (fun b e => e.elim (fun e => Or.inl (Or.inl e)) (fun e => hat2.elim (fun h => Or.inl (Or.inr (e.trans h))) (fun h => Or.inr (by omega))))).trans o79 (fun b e => e.elim (fun e => Or.inr (by omega)) (fun e => Or.inl (Or.inl e)))); have HZ9 := hid z9; have HO79 := hid o79; have z0 := z9.cell 0; have z1 := z9.cell 1; have z2 := z9.cell 2; have z3 := z9.cell 3; have z4 := z9.cell 4; have zf0 := z9.free 0; have zf1 := z9.free 1; have zf2 := z9.free 2; have zf3 := z9.free 3; have zf4 := z9.free 4; have zl := z9.lt; clear o79 z9 o9))
       have hE := (five_set (a := .string ⟨#[]⟩) (b := .string ⟨#[]⟩) (c := .slice none 0 0) (d := .slice none 0 0) (e := .string ⟨#[]⟩) HZ9.out)
       have d0 := hE.cell 0
       have d1 := hE.cell 1
       have d2 := hE.cell 2
       have d3 := hE.cell 3
       have d4 := hE.cell 4
       refine bodyPost_ret (v := .tuple #[zNV, .int .i64 70]) ?_ rfl ?_
       ·simp [results, Tryz.results53, go_sem, d0, d1, d2, d3, d4]
       exact EOut.bad HO.out (by decide) (((((HO9.out.new hZw _ _).new hZw _ _).new hZw _ _).new hZw _ _).new hZw _ _)
      | some s4 =>
       have HO : Hid (elemX d l s = .ok (nd.withKids ks, s4)) := hid (by rw [HX4.out, hen])
       rw [hen] at HEnd
       simp only [Option.isSome_some] at HEnd
       clear HX4 hen
       go_wp2_with (first
        | (go_at_call 82; (with_reducible refine HKc.out.mono ?_); rintro e w7 ⟨o7, r7, k7, kA, kc, rfl, hrn⟩; have z7 := o7.blk (HO6.out.blk HB2.out.zero (by omega)) (by omega); have m7 := o7.blk (HO6.out.blk HN2.out (by omega)) (by omega); have v7 := o7.blk (HO6.out.blk HB2.out.var (by omega)) (by omega); have q1 : w7.cell? ⟨R, 1, none⟩ = some (.int .i64 ((d : Int) + 1)) := r7.c1; have q2 := r7.c2; have qf1 := r7.free 1; have qf2 := r7.free 2; have m3 := m7.cell 3; have mf3 := m7.free 3; have u0 := v7.cell 0; have u1 := v7.cell 1; have u2 := v7.cell 2; have u3 := v7.cell 3; have HZ7 := hid z7; have HM7 := hid m7; have HQ7 := hid (And.intro o7 (And.intro r7 (And.intro k7 hrn))); clear z7 m7 v7 o7 r7 k7 hrn)
        | (go_at_call 83; (with_reducible refine (HEnd.out _ (((HQ7.out.2.1.off (off_set8 _ M 3 _) hRM).set1 d).set2 _)).mono ?_); rintro e w9 ⟨rfl, hr9, o9⟩; have r9 := hr9 s4 rfl; have m8 : Blk M (.cells #[sV nd.space, sV nd.name, .slice A2 n2 c2, .slice kA nK kc, sV []] TNo) (w7.setCell ⟨M, 3, none⟩ (.slice kA nK kc)) := (by have := HM7.out.set 3 (.slice kA nK kc); simpa using this); have m9 := o9.blk ((off_set8 _ R 2 (ScV S nL cap)).blk ((off_set8 _ R 1 (.int .i64 (d : Int))).blk m8 hMR) hMR) hMR; have o79 : Off (fun b => b = M ∨ b = R) w7 w9 := ((((off_set8 w7 M 3 (.slice kA nK kc)).mono (fun _ e => Or.inl e)).then ((off_set8 _ R 1 (.int .i64 (d : Int))).mono (fun _ e => Or.inr e))).then ((off_set8 _ R 2 (ScV S nL cap)).mono (fun _ e => Or.inr e))).then (o9.mono (fun _ e => Or.inr e)); have z9 := o79.blk HZ7.out (fun e => e.elim (fun e => hMZ e.symm) (fun e => hRZ e.symm)); have HO9 : Hid (Off (fun b => b = R ∨ b = S) w w9) := hid (((HB2.out.off.then (HO6.out.mono (fun b e => Or.inl e))).trans HQ7.out.1 (fun b e => e.elim (fun e => Or.inl (Or.inl e)) (fun e => hat2.elim (fun h => Or.inl (Or.inr (e.trans h))) (fun h => Or.inr (by omega))))).trans o79 (fun b e => e.elim (fun e => Or.inr (by omega)) (fun e => Or.inl (Or.inl e)))); have HZ9 := hid z9; have HO79 := hid o79; have z0 := z9.cell 0; have z1 := z9.cell 1; have z2 := z9.cell 2; have z3 := z9.cell 3; have z4 := z9.cell 4; have zf0 := z9.free 0; have zf1 := z9.free 1; have zf2 := z9.free 2; have zf3 := z9.free 3; have zf4 := z9.free 4; have zl := z9.lt; have m0 := m9.cell 0; have m1 := m9.cell 1; have m2 := m9.cell 2; have m3 := m9.cell 3; have m4 := m9.cell 4; have mf0 := m9.free 0; have mf1 := m9.free 1; have mf2 := m9.free 2; have mf3 := m9.free 3; have mf4 := m9.free 4; have ml := m9.lt; have HR9 := hid r9; clear o79 z9 o9 m8 m9 r9 hr9))
       have hE := five_set (a := sV nd.space) (b := sV nd.name) (c := .slice A2 n2 c2) (d := .slice kA nK kc) (e := sV []) HZ9.out
       have d0 := hE.cell 0
       have d1 := hE.cell 1
       have d2 := hE.cell 2
       have d3 := hE.cell 3
       have d4 := hE.cell 4
       refine bodyPost_ret (v := .tuple #[.agg #[sV nd.space, sV nd.name, .slice A2 n2 c2, .slice kA nK kc, sV []], .int .i64 0]) ?_ rfl ?_
       ·simp [results, Tryz.results53, go_sem, d0, d1, d2, d3, d4]
       have oz := ((((off_set8 w9 Z 0 (sV nd.space)).then (off_set8 _ Z 1 (sV nd.name))).then (off_set8 _ Z 2 (.slice A2 n2 c2))).then (off_set8 _ Z 3 (.slice kA nK kc))).then (off_set8 _ Z 4 (sV []))
       have e3 := HE3.out
       subst e3
       have eK := HNK.out
       subst eK
       refine ⟨(((((HO9.out.new hZw _ _).new hZw _ _).new hZw _ _).new hZw _ _).new hZw _ _), ?_⟩
       rw [HO.out]
       obtain ⟨o7, r7, k7, hrn⟩ := HQ7.out
       have hk2 : l.length ≤ l2.length := by rw [HS2.out.1, List.length_append]; omega
       refine ⟨?_, (((HB2.out.keep.trans (KeepS.off HO6.out (fun e => HI.out.ne e.symm))).trans (keep_in hSl hat2 HI.out.ne o7 k7 hk2)).trans (KeepS.off HO79.out (fun e => e.elim (fun e => by omega) (fun e => HI.out.ne e.symm)))).trans (KeepS.off oz (by omega)), _, rfl, ?_⟩
       ·have := HR9.out.off oz hRZ
        rw [← HNL.out] at this
        exact this
       ·refine xr_kids HS2.out.2.2 ?_ ?_
        ·have h1 := (((HRC.out.off HO6.out (fun b hb e => by omega)).off o7 (fun b hb e => e.elim (fun e => by omega) (fun e => hb.1.2 e))).off HO79.out (fun b hb e => e.elim (fun e => hb.2.2.2.2 e) (fun e => by omega))).off oz (fun b hb e => hb.2.2.1 e)
         exact h1.lt.mono (fun b hb => ⟨hb.1.1.1, hb.2⟩)
        ·have h6 : w5.heap.size ≤ w6.heap.size := HO6.out.size
         have hl5 := HB2.out.zero.lt
         have hl6 := HN2.out.lt
         have h1 := (hrn.off HO79.out (fun b hb e => e.elim (fun e => by omega) (fun e => by omega))).off oz (fun b hb e => by omega)
         have hs9 := Nat.le_trans HO79.out.size oz.size
         exact h1.mono (fun b hb => ⟨by omega, Nat.lt_of_lt_of_le hb.2 hs9⟩)
theorem element_all : ∀ N : Nat, ElemC N
 | 0 => fun R S cap d l s w hN hI => by
  have hs : s = [] := List.eq_nil_of_length_eq_zero (by omega)
  exact element_none hI (by rw [hs]; rfl)
 | N + 1 => fun R S cap d l s w hN hI => by
  cases ht : tagX s with
  | none => exact element_none hI ht
  | some y =>
   obtain ⟨⟨nm, ms, cl⟩, s2⟩ := y
   exact element_some (element_all N) hI hN ht
theorem element_any {R S cap d : Nat} {l : XS} {s : Bt} {w : World} (hI : EIn R S cap d l s w) :
    Calls Tryz.prog 53 #[.pointer (some ⟨R, 0, none⟩)] w (EOut R S cap d l w (elemX d l s)) := element_all s.length R S cap d l s w (Nat.le_refl _) hI
theorem around_nil8 : aroundL [] = some [] := by decide
theorem around_le : ∀ (n : Nat) {s r : Bt}, s.length ≤ n → aroundL s = some r → r.length ≤ s.length
 | 0, s, r, hn, h => by
  have : s = [] := List.eq_nil_of_length_eq_zero (by omega)
  subst this
  rw [around_nil8] at h
  injection h with h
  subst h
  exact Nat.le_refl _
 | n + 1, s, r, hn, h => by
  have hb := blanks_le s
  rw [aroundL_eq] at h
  cases ha : asideL (blanksL s) with
  | none => rw [ha] at h; cases h
  | some o =>
   rw [ha] at h
   cases o with
   | none =>
    injection h with h
    subst h
    exact hb
   | some q =>
    have := aside_len ha
    have := around_le n (by omega) h
    omega
theorem EIn.rdr {R S cap d : Nat} {l : XS} {s s' : Bt} {w w' : World} (h : EIn R S cap d l s w) (hr : RS R s' d (ScV S l.length cap) w') (ho : Off (fun b => b = R) w w') (hl : s'.length ≤ s.length) : EIn R S cap d l s' w' :=
 ⟨hr, h.sc.off ho (fun e => h.ne e.symm), h.ml.off ho h.neR, h.neR, h.neS, h.ne, by have := h.len; omega, by have := h.short; omega, h.small, h.deep⟩
theorem EIn.below {R S cap d : Nat} {l : XS} {s : Bt} {w w' : World} (h : EIn R S cap d l s w) (hb : Below w.heap.size w w') : EIn R S cap d l s w' :=
 ⟨h.rd.below hb, h.sc.off (Off.of_below hb) (fun h => h), h.ml.below hb, h.neR, h.neS, h.ne, h.len, h.short, h.small, h.deep⟩
def DOut (R S : Nat) (w : World) (o : XV × Int) (e : Ending) (w' : World) : Prop :=
 Off (fun b => b = R ∨ b = S) w w' ∧ ∃ x, e = .returned (.tuple #[x, .int .i64 o.2]) ∧ XR w' (fun b => w.heap.size ≤ b ∧ b < w'.heap.size) o.1 x
theorem DOut.bad {R S : Nat} {w w' : World} {o : XV × Int} {k : Int} (h : o = (zeroX, k)) (ho : Off (fun b => b = R ∨ b = S) w w') : DOut R S w o (.returned (.tuple #[zNV, .int .i64 k])) w' := by
 subst h
 exact ⟨ho, _, rfl, xr_zero _ _⟩
set_option maxRecDepth 100000 in
set_option maxHeartbeats 40000000 in
theorem document_any {R S cap : Nat} {s : Bt} {w : World} (hI : EIn R S cap 0 scope0 s w) :
    Calls Tryz.prog 30 #[.pointer (some ⟨R, 0, none⟩)] w (DOut R S w (docX s)) := by
 have hB := below_alloc8 w ZN
 have HB := hid hB
 obtain ⟨Z, hZe⟩ : ∃ Z, w.heap.size = Z := ⟨_, rfl⟩
 have hZ : Blk Z ZN (w.alloc ZN) := by have := Blk.new ZN w; rwa [hZe] at this
 have HZ := hid hZ
 have hZw : w.heap.size ≤ Z := Nat.le_of_eq hZe
 have hRl := hI.rd.lt
 have hSl := hI.sc.lt
 have hRZ : R ≠ Z := by omega
 have hZR : Z ≠ R := hRZ.symm
 have HI := hid (hI.below hB)
 have HA := hid (around_any (hI.below hB).rd (hI.below hB).ml hI.neR (by have := hI.short; omega))
 have hX : docX s = docX s := rfl
 conv at hX => rhs; unfold docX
 have HX := hid hX
 have HZE := hid hZe
 clear hX hI hB hZ
 cases ha : aroundL s with
 | none =>
  have HO : Hid (docX s = (zeroX, 70)) := hid (by rw [HX.out, ha])
  rw [ha] at HA
  unfold RdO at HA
  clear ha HX
  go_enter Tryz.func30, Tryz.ntmps30
  go_wp2_with (go_at_call 51; (with_reducible refine HA.out.mono ?_); go_loud (rintro e w1 ⟨rfl, hr1, o1⟩); have z1 := o1.blk HZ.out hZR; have HO1 : Hid (Off (fun b => b = R) w w1) := hid ((Off.ofB HB.out).then o1); have q0 := z1.cell 0; have q1 := z1.cell 1; have q2 := z1.cell 2; have q3 := z1.cell 3; have q4 := z1.cell 4; have qf0 := z1.free 0; have qf1 := z1.free 1; have qf2 := z1.free 2; have qf3 := z1.free 3; have qf4 := z1.free 4; have ql := z1.lt; have HZ1 := hid z1; clear z1 o1 hr1)
  have hE := (five_set (a := .string ⟨#[]⟩) (b := .string ⟨#[]⟩) (c := .slice none 0 0) (d := .slice none 0 0) (e := .string ⟨#[]⟩) HZ1.out)
  have d0 := hE.cell 0
  have d1 := hE.cell 1
  have d2 := hE.cell 2
  have d3 := hE.cell 3
  have d4 := hE.cell 4
  refine bodyPost_ret (v := .tuple #[zNV, .int .i64 70]) ?_ rfl ?_
  ·simp [results, Tryz.results30, go_sem, d0, d1, d2, d3, d4]
  exact DOut.bad HO.out ((((((HO1.out.mono (fun b e => Or.inl e)).new hZw _ _).new hZw _ _).new hZw _ _).new hZw _ _).new hZw _ _)
 | some s1 =>
  have hs1 := around_le _ (Nat.le_refl _) ha
  rw [ha] at HA
  unfold RdO at HA
  cases h2 : wordL [60] s1 with
  | none =>
   have HO : Hid (docX s = (zeroX, 70)) := hid (by rw [HX.out, ha]; simp only [h2])
   have HT : Hid (∀ W, RS R s1 0 (ScV S scope0.length cap) W → Calls Tryz.prog 52 #[.pointer (some ⟨R, 0, none⟩), .string ⟨#[60]⟩] W (fun e w' => e = .returned (.bool false) ∧ RS R s1 0 (ScV S scope0.length cap) w' ∧ Off (fun b => b = R) W w')) := hid (fun W hW => take_no hW h2)
   clear ha HX h2
   go_enter Tryz.func30, Tryz.ntmps30
   go_wp2_with (first
    | (go_at_call 51; (with_reducible refine HA.out.mono ?_); go_loud (rintro e w1 ⟨rfl, hr1, o1⟩); have z1 := o1.blk HZ.out hZR; have HO1 : Hid (Off (fun b => b = R) w w1) := hid ((Off.ofB HB.out).then o1); have HZ1 := hid z1; have HI1 := hid (HI.out.rdr (hr1 s1 rfl) o1 hs1); clear z1 o1 hr1)
    | (go_at_call 52; (with_reducible refine (HT.out _ HI1.out.rd).mono ?_); rintro e w2 ⟨rfl, r2, o2⟩; have z2 := o2.blk HZ1.out hZR; have q0 := z2.cell 0; have q1 := z2.cell 1; have q2 := z2.cell 2; have q3 := z2.cell 3; have q4 := z2.cell 4; have qf0 := z2.free 0; have qf1 := z2.free 1; have qf2 := z2.free 2; have qf3 := z2.free 3; have qf4 := z2.free 4; have ql := z2.lt; have HZ2 := hid z2; have HO2 := hid (HO1.out.then o2); clear z2 o2 r2))
   have hE := (five_set (a := .string ⟨#[]⟩) (b := .string ⟨#[]⟩) (c := .slice none 0 0) (d := .slice none 0 0) (e := .string ⟨#[]⟩) HZ2.out)
   have d0 := hE.cell 0
   have d1 := hE.cell 1
   have d2 := hE.cell 2
   have d3 := hE.cell 3
   have d4 := hE.cell 4
   refine bodyPost_ret (v := .tuple #[zNV, .int .i64 70]) ?_ rfl ?_
   ·simp [results, Tryz.results30, go_sem, d0, d1, d2, d3, d4]
   exact DOut.bad HO.out ((((((HO2.out.mono (fun b e => Or.inl e)).new hZw _ _).new hZw _ _).new hZw _ _).new hZw _ _).new hZw _ _)
  | some s2 =>
   have hs2 := word_len h2
   simp only [List.length_cons, List.length_nil] at hs2
   have HT : Hid (∀ W, RS R s1 0 (ScV S scope0.length cap) W → Calls Tryz.prog 52 #[.pointer (some ⟨R, 0, none⟩), .string ⟨#[60]⟩] W (fun e w' => e = .returned (.bool true) ∧ RS R s2 0 (ScV S scope0.length cap) w' ∧ Off (fun b => b = R) W w')) := hid (fun W hW => take_yes hW h2)
   have HE := hid (fun W (hW : EIn R S cap 0 scope0 s2 W) => element_any hW)
   unfold EOut at HE
   have HX2 : Hid (docX s = match elemX 0 scope0 s2 with
       | .error e => (zeroX, e)
       | .ok (v, s3) => match aroundL s3 with
        | none => (zeroX, 70)
        | some r => if r = [] then (v, 0) else (zeroX, 70)) := hid (by rw [HX.out, ha]; simp only [h2]; cases elemX 0 scope0 s2 <;> rfl)
   clear ha HX h2
   cases he : elemX 0 scope0 s2 with
   | error k =>
    have HO : Hid (docX s = (zeroX, k)) := hid (by rw [HX2.out, he])
    rw [he] at HE
    simp only at HE
    clear he HX2
    go_enter Tryz.func30, Tryz.ntmps30
    go_wp2_with (first
     | (go_at_call 51; (with_reducible refine HA.out.mono ?_); go_loud (rintro e w1 ⟨rfl, hr1, o1⟩); have z1 := o1.blk HZ.out hZR; have HO1 : Hid (Off (fun b => b = R) w w1) := hid ((Off.ofB HB.out).then o1); have HZ1 := hid z1; have HI1 := hid (HI.out.rdr (hr1 s1 rfl) o1 hs1); clear z1 o1 hr1)
     | (go_at_call 52; (with_reducible refine (HT.out _ HI1.out.rd).mono ?_); rintro e w2 ⟨rfl, r2, o2⟩; have z2 := o2.blk HZ1.out hZR; have HZ2 := hid z2; have HO2 := hid (HO1.out.then o2); have HI2 := hid (HI1.out.rdr r2 o2 (by omega)); clear z2 o2 r2)
     | (go_at_call 53; (with_reducible refine (HE.out _ HI2.out).mono ?_); rintro e w3 ⟨o3, hk, rfl⟩; have z3 := o3.blk HZ2.out (by omega); have q0 := z3.cell 0; have q1 := z3.cell 1; have q2 := z3.cell 2; have q3 := z3.cell 3; have q4 := z3.cell 4; have qf0 := z3.free 0; have qf1 := z3.free 1; have qf2 := z3.free 2; have qf3 := z3.free 3; have qf4 := z3.free 4; have ql := z3.lt; have HZ3 := hid z3; have HO3 := hid ((HO2.out.mono (fun b e => Or.inl e) : Off (fun b => b = R ∨ b = S) w w2).then o3); clear z3 o3))
    have hE := (five_set (a := .string ⟨#[]⟩) (b := .string ⟨#[]⟩) (c := .slice none 0 0) (d := .slice none 0 0) (e := .string ⟨#[]⟩) HZ3.out).alloc8 (o' := ZN)
    have d0 := hE.cell 0
    have d1 := hE.cell 1
    have d2 := hE.cell 2
    have d3 := hE.cell 3
    have d4 := hE.cell 4
    refine bodyPost_ret (v := .tuple #[zNV, .int .i64 k]) ?_ rfl ?_
    ·simp [results, Tryz.results30, go_sem, d0, d1, d2, d3, d4]
    exact DOut.bad HO.out ((((((HO3.out.new hZw _ _).new hZw _ _).new hZw _ _).new hZw _ _).new hZw _ _).thenB (below_alloc8 _ _))
   | ok y =>
    obtain ⟨v, s3⟩ := y
    have hs3 := elemX_len he
    have HX3 : Hid (docX s = match aroundL s3 with
          | none => (zeroX, 70)
          | some r => if r = [] then (v, 0) else (zeroX, 70)) := hid (by rw [HX2.out, he])
    rw [he] at HE
    simp only at HE
    clear he HX2
    have HA3 := hid (fun W (hW : RS R s3 0 (ScV S scope0.length cap) W) (hm : ML W) => around_any hW hm HI.out.neR (by have := HI.out.short; omega))
    unfold RdO at HA3
    cases ha3 : aroundL s3 with
    | none =>
     have HO : Hid (docX s = (zeroX, 70)) := hid (by rw [HX3.out, ha3])
     rw [ha3] at HA3
     clear ha3 HX3
     go_enter Tryz.func30, Tryz.ntmps30
     go_wp2_with (first
      | (go_at_call 51; (with_reducible refine HA.out.mono ?_); go_loud (rintro e w1 ⟨rfl, hr1, o1⟩); have z1 := o1.blk HZ.out hZR; have HO1 : Hid (Off (fun b => b = R) w w1) := hid ((Off.ofB HB.out).then o1); have HZ1 := hid z1; have HI1 := hid (HI.out.rdr (hr1 s1 rfl) o1 hs1); clear z1 o1 hr1)
      | (go_at_call 52; (with_reducible refine (HT.out _ HI1.out.rd).mono ?_); rintro e w2 ⟨rfl, r2, o2⟩; have z2 := o2.blk HZ1.out hZR; have HZ2 := hid z2; have HO2 := hid (HO1.out.then o2); have HI2 := hid (HI1.out.rdr r2 o2 (by omega)); clear z2 o2 r2)
      | (go_at_call 53; (with_reducible refine (HE.out _ HI2.out).mono ?_); rintro e w3 ⟨o3, r3, k3, x, rfl, hx⟩; obtain ⟨aA, ac, kA, kc, rfl⟩ := xr_one hx; have B3 := below_alloc8 w3 (.cells #[sV v.space, sV v.name, .slice aA v.attrs.length ac, .slice kA v.kids.length kc, sV v.text] TNo); have HZ3 := hid ((o3.blk HZ2.out (by omega)).alloc8 (o' := .cells #[sV v.space, sV v.name, .slice aA v.attrs.length ac, .slice kA v.kids.length kc, sV v.text] TNo)); have HO3 := hid (((HO2.out.mono (fun b e => Or.inl e) : Off (fun b => b = R ∨ b = S) w w2).then o3).thenB B3); have HR3 := hid (r3.below B3); have HM3 := hid ((HI2.out.ml.off o3 (fun e => e.elim HI.out.neR HI.out.neS)).below B3); have HX3v := hid (XR.below hx B3); have HN3 := hid (Blk.new (.cells #[sV v.space, sV v.name, .slice aA v.attrs.length ac, .slice kA v.kids.length kc, sV v.text] TNo) w3); have hN2 : Z < w2.heap.size := HZ2.out.lt; have hN3 : Z < w3.heap.size := (o3.blk HZ2.out (by omega)).lt; have hR3 : R < w3.heap.size := r3.lt; have hg3 : w.heap.size ≤ w2.heap.size ∧ w2.heap.size ≤ w3.heap.size := And.intro HO2.out.size o3.size; have HT3 := hid (fun b (h : w2.heap.size ≤ b ∧ b < w3.heap.size) => (show R < b by have := HO2.out.size; omega)); clear o3 r3 k3 hx B3)
      | (go_at_call 51; (with_reducible refine (HA3.out _ HR3.out HM3.out).mono ?_); rintro e w4 ⟨rfl, hr4, o4⟩; have z4 := o4.blk HZ3.out hZR; have q0 := z4.cell 0; have q1 := z4.cell 1; have q2 := z4.cell 2; have q3 := z4.cell 3; have q4 := z4.cell 4; have qf0 := z4.free 0; have qf1 := z4.free 1; have qf2 := z4.free 2; have qf3 := z4.free 3; have qf4 := z4.free 4; have ql := z4.lt; have HZ4 := hid z4; have HO4 := hid (HO3.out.then (o4.mono (fun b e => Or.inl e))); clear z4 o4 hr4))
     have hE := (five_set (a := .string ⟨#[]⟩) (b := .string ⟨#[]⟩) (c := .slice none 0 0) (d := .slice none 0 0) (e := .string ⟨#[]⟩) HZ4.out)
     have d0 := hE.cell 0
     have d1 := hE.cell 1
     have d2 := hE.cell 2
     have d3 := hE.cell 3
     have d4 := hE.cell 4
     refine bodyPost_ret (v := .tuple #[zNV, .int .i64 70]) ?_ rfl ?_
     ·simp [results, Tryz.results30, go_sem, d0, d1, d2, d3, d4]
     exact DOut.bad HO.out (((((HO4.out.new hZw _ _).new hZw _ _).new hZw _ _).new hZw _ _).new hZw _ _)
    | some r =>
     rw [ha3] at HA3
     by_cases hr : r = []
     ·subst hr
      have HO : Hid (docX s = (v, 0)) := hid (by rw [HX3.out, ha3]; rfl)
      clear ha3 HX3
      go_enter Tryz.func30, Tryz.ntmps30
      go_wp2_with (first
       | (go_at_call 51; (with_reducible refine HA.out.mono ?_); go_loud (rintro e w1 ⟨rfl, hr1, o1⟩); have z1 := o1.blk HZ.out hZR; have HO1 : Hid (Off (fun b => b = R) w w1) := hid ((Off.ofB HB.out).then o1); have HZ1 := hid z1; have HI1 := hid (HI.out.rdr (hr1 s1 rfl) o1 hs1); clear z1 o1 hr1)
       | (go_at_call 52; (with_reducible refine (HT.out _ HI1.out.rd).mono ?_); rintro e w2 ⟨rfl, r2, o2⟩; have z2 := o2.blk HZ1.out hZR; have HZ2 := hid z2; have HO2 := hid (HO1.out.then o2); have HI2 := hid (HI1.out.rdr r2 o2 (by omega)); clear z2 o2 r2)
       | (go_at_call 53; (with_reducible refine (HE.out _ HI2.out).mono ?_); rintro e w3 ⟨o3, r3, k3, x, rfl, hx⟩; obtain ⟨aA, ac, kA, kc, rfl⟩ := xr_one hx; have B3 := below_alloc8 w3 (.cells #[sV v.space, sV v.name, .slice aA v.attrs.length ac, .slice kA v.kids.length kc, sV v.text] TNo); have HZ3 := hid ((o3.blk HZ2.out (by omega)).alloc8 (o' := .cells #[sV v.space, sV v.name, .slice aA v.attrs.length ac, .slice kA v.kids.length kc, sV v.text] TNo)); have HO3 := hid (((HO2.out.mono (fun b e => Or.inl e) : Off (fun b => b = R ∨ b = S) w w2).then o3).thenB B3); have HR3 := hid (r3.below B3); have HM3 := hid ((HI2.out.ml.off o3 (fun e => e.elim HI.out.neR HI.out.neS)).below B3); have HX3v := hid (XR.below hx B3); have HN3 := hid (Blk.new (.cells #[sV v.space, sV v.name, .slice aA v.attrs.length ac, .slice kA v.kids.length kc, sV v.text] TNo) w3); have hN2 : Z < w2.heap.size := HZ2.out.lt; have hN3 : Z < w3.heap.size := (o3.blk HZ2.out (by omega)).lt; have hR3 : R < w3.heap.size := r3.lt; have hg3 : w.heap.size ≤ w2.heap.size ∧ w2.heap.size ≤ w3.heap.size := And.intro HO2.out.size o3.size; have HT3 := hid (fun b (h : w2.heap.size ≤ b ∧ b < w3.heap.size) => (show R < b by have := HO2.out.size; omega)); clear o3 r3 k3 hx B3)
       | (go_at_call 51; (with_reducible refine (HA3.out _ HR3.out HM3.out).mono ?_); rintro e w4 ⟨rfl, hr4, o4⟩; have r4 := hr4 [] rfl; have rc0 : w4.cell? ⟨R, 0, none⟩ = some (.string ⟨#[]⟩) := r4.c0; have z4 := o4.blk HZ3.out hZR; have q0 := z4.cell 0; have q1 := z4.cell 1; have q2 := z4.cell 2; have q3 := z4.cell 3; have q4 := z4.cell 4; have qf0 := z4.free 0; have qf1 := z4.free 1; have qf2 := z4.free 2; have qf3 := z4.free 3; have qf4 := z4.free 4; have ql := z4.lt; have m4 := o4.blk HN3.out (by omega); have hg4 : w3.heap.size ≤ w4.heap.size := (Nat.le_trans (below_alloc8 w3 (.cells #[sV v.space, sV v.name, .slice aA v.attrs.length ac, .slice kA v.kids.length kc, sV v.text] TNo)).size o4.size); have p0 := m4.cell 0; have p1 := m4.cell 1; have p2 := m4.cell 2; have p3 := m4.cell 3; have p4 := m4.cell 4; have pf0 := m4.free 0; have pf1 := m4.free 1; have pf2 := m4.free 2; have pf3 := m4.free 3; have pf4 := m4.free 4; have pl := m4.lt; have HZ4 := hid z4; have HO4 := hid (HO3.out.then (o4.mono (fun b e => Or.inl e))); have HX4 := hid (XR.off o4 (fun b hb e => by have := HT3.out b hb; omega) _ _ HX3v.out); clear z4 o4 hr4 m4 r4))
      have hE := five_set (a := sV v.space) (b := sV v.name) (c := .slice aA v.attrs.length ac) (d := .slice kA v.kids.length kc) (e := sV v.text) HZ4.out
      have d0 := hE.cell 0
      have d1 := hE.cell 1
      have d2 := hE.cell 2
      have d3 := hE.cell 3
      have d4 := hE.cell 4
      have oz := ((((off_set8 w4 Z 0 (sV v.space)).then (off_set8 _ Z 1 (sV v.name))).then (off_set8 _ Z 2 (.slice aA v.attrs.length ac))).then (off_set8 _ Z 3 (.slice kA v.kids.length kc))).then (off_set8 _ Z 4 (sV v.text))
      refine bodyPost_ret (v := .tuple #[.agg #[sV v.space, sV v.name, .slice aA v.attrs.length ac, .slice kA v.kids.length kc, sV v.text], .int .i64 0]) ?_ rfl ?_
      ·simp [results, Tryz.results30, go_sem, d0, d1, d2, d3, d4]
      refine ⟨(((((HO4.out.new hZw _ _).new hZw _ _).new hZw _ _).new hZw _ _).new hZw _ _), _, by rw [HO.out], ?_⟩
      rw [HO.out]
      have hs4 := Nat.le_trans hg4 oz.size
      exact XR.mono (fun b hb => ⟨by have := hb.1; omega, Nat.lt_of_lt_of_le hb.2 hs4⟩) _ _ (XR.off oz (fun b hb e => by have := hb.1; omega) _ _ HX4.out)
     ·have HO : Hid (docX s = (zeroX, 70)) := hid (by rw [HX3.out, ha3]; simp only [if_neg hr])
      have hq : ¬ (bs r).toList = [] := by rw [bs_toList]; exact hr
      have hq2 : (bs r).toList.isEmpty = false := by rw [bs_toList]; cases hq : r with | nil => exact absurd hq hr | cons => rfl
      clear ha3 HX3 hr
      go_enter Tryz.func30, Tryz.ntmps30
      go_wp2_with (first
       | (go_at_call 51; (with_reducible refine HA.out.mono ?_); go_loud (rintro e w1 ⟨rfl, hr1, o1⟩); have z1 := o1.blk HZ.out hZR; have HO1 : Hid (Off (fun b => b = R) w w1) := hid ((Off.ofB HB.out).then o1); have HZ1 := hid z1; have HI1 := hid (HI.out.rdr (hr1 s1 rfl) o1 hs1); clear z1 o1 hr1)
       | (go_at_call 52; (with_reducible refine (HT.out _ HI1.out.rd).mono ?_); rintro e w2 ⟨rfl, r2, o2⟩; have z2 := o2.blk HZ1.out hZR; have HZ2 := hid z2; have HO2 := hid (HO1.out.then o2); have HI2 := hid (HI1.out.rdr r2 o2 (by omega)); clear z2 o2 r2)
       | (go_at_call 53; (with_reducible refine (HE.out _ HI2.out).mono ?_); rintro e w3 ⟨o3, r3, k3, x, rfl, hx⟩; obtain ⟨aA, ac, kA, kc, rfl⟩ := xr_one hx; have B3 := below_alloc8 w3 (.cells #[sV v.space, sV v.name, .slice aA v.attrs.length ac, .slice kA v.kids.length kc, sV v.text] TNo); have HZ3 := hid ((o3.blk HZ2.out (by omega)).alloc8 (o' := .cells #[sV v.space, sV v.name, .slice aA v.attrs.length ac, .slice kA v.kids.length kc, sV v.text] TNo)); have HO3 := hid (((HO2.out.mono (fun b e => Or.inl e) : Off (fun b => b = R ∨ b = S) w w2).then o3).thenB B3); have HR3 := hid (r3.below B3); have HM3 := hid ((HI2.out.ml.off o3 (fun e => e.elim HI.out.neR HI.out.neS)).below B3); have HX3v := hid (XR.below hx B3); have HN3 := hid (Blk.new (.cells #[sV v.space, sV v.name, .slice aA v.attrs.length ac, .slice kA v.kids.length kc, sV v.text] TNo) w3); have hN2 : Z < w2.heap.size := HZ2.out.lt; have hN3 : Z < w3.heap.size := (o3.blk HZ2.out (by omega)).lt; have hR3 : R < w3.heap.size := r3.lt; have hg3 : w.heap.size ≤ w2.heap.size ∧ w2.heap.size ≤ w3.heap.size := And.intro HO2.out.size o3.size; have HT3 := hid (fun b (h : w2.heap.size ≤ b ∧ b < w3.heap.size) => (show R < b by have := HO2.out.size; omega)); clear o3 r3 k3 hx B3)
       | (go_at_call 51; (with_reducible refine (HA3.out _ HR3.out HM3.out).mono ?_); rintro e w4 ⟨rfl, hr4, o4⟩; have r4 := hr4 r rfl; have rc0 := r4.c0; have z4 := o4.blk HZ3.out hZR; have q0 := z4.cell 0; have q1 := z4.cell 1; have q2 := z4.cell 2; have q3 := z4.cell 3; have q4 := z4.cell 4; have qf0 := z4.free 0; have qf1 := z4.free 1; have qf2 := z4.free 2; have qf3 := z4.free 3; have qf4 := z4.free 4; have ql := z4.lt; have HZ4 := hid z4; have HO4 := hid (HO3.out.then (o4.mono (fun b e => Or.inl e))); clear z4 o4 hr4 r4))
      have hE := (five_set (a := .string ⟨#[]⟩) (b := .string ⟨#[]⟩) (c := .slice none 0 0) (d := .slice none 0 0) (e := .string ⟨#[]⟩) HZ4.out)
      have d0 := hE.cell 0
      have d1 := hE.cell 1
      have d2 := hE.cell 2
      have d3 := hE.cell 3
      have d4 := hE.cell 4
      refine bodyPost_ret (v := .tuple #[zNV, .int .i64 70]) ?_ rfl ?_
      ·simp [results, Tryz.results30, go_sem, d0, d1, d2, d3, d4]
      exact DOut.bad HO.out (((((HO4.out.new hZw _ _).new hZw _ _).new hZw _ _).new hZw _ _).new hZw _ _)
set_option maxRecDepth 100000 in
theorem scope0_any (w : World) : Calls Tryz.prog 29 #[] w (fun e w' => e = .returned (ScV w.heap.size 2 2) ∧ ScR w.heap.size 2 scope0 w' ∧ Below w.heap.size w w') := by
 have hb := below_alloc8 w (.cells #[.string ⟨#[]⟩, .string ⟨#[]⟩, .string ⟨#[120, 109, 108]⟩, .string ⟨#[104, 116, 116, 112, 58, 47, 47, 119, 119, 119, 46, 119, 51, 46, 111, 114, 103, 47, 88, 77, 76, 47, 49, 57, 57, 56, 47, 110, 97, 109, 101, 115, 112, 97, 99, 101]⟩] TBi (0, 0))
 have HB := hid hb
 have HN := hid (Blk.new (.cells #[.string ⟨#[]⟩, .string ⟨#[]⟩, .string ⟨#[120, 109, 108]⟩, .string ⟨#[104, 116, 116, 112, 58, 47, 47, 119, 119, 119, 46, 119, 51, 46, 111, 114, 103, 47, 88, 77, 76, 47, 49, 57, 57, 56, 47, 110, 97, 109, 101, 115, 112, 97, 99, 101]⟩] TBi (0, 0)) w)
 clear hb
 go_enter Tryz.func29, Tryz.ntmps29
 go_wp2
 go_ret
 exact ⟨rfl, ⟨_, HN.out, by decide, by unfold maxLen; omega, rfl, rfl⟩, HB.out⟩
theorem conv_rb8 {w : World} {A : Option Addr} {l : Bs} (c : Nat) (h : RB w A l) : (convert 22 9 (.slice A l.length c)).run Tryz.prog w = .ok (.string (bs l)) w := by
 cases l with
 | nil =>
  cases A with
  | none => exact run_convert_bytes_nil w 22 5 Tryz.underlying22 Tryz.underlying5 0 c 9 Tryz.underlying9
  | some a => exact run_convert_bytes_back w 22 9 5 a c [] Tryz.underlying22 Tryz.underlying5 Tryz.underlying9 (fun j hj => absurd hj (Nat.not_lt_zero _))
 | cons x r =>
  obtain ⟨b, off, rfl, hbl, hcs⟩ := h (by simp)
  refine run_convert_bytes_back w 22 9 5 ⟨b, off, none⟩ c (x :: r) Tryz.underlying22 Tryz.underlying5 Tryz.underlying9 fun j hj => ?_
  rw [Addr.add_mid, hcs j hj]
  simp [bf, List.getD, List.getElem?_eq_getElem hj]
theorem conv_slice8 {w : World} {A : Option Addr} {l : Bs} {n : Nat} (c : Nat) (hn : l.length = n) (h : RB w A l) : (convert 22 9 (.slice A n c)).run Tryz.prog w = .ok (.string (bs l)) w := by
 subst hn
 exact conv_rb8 c h
theorem trim_bom (b : Bt) (W : World) : Calls Tryz.prog 27 #[.string (bs b), .string ⟨#[239, 187, 191]⟩] W (fun e w' => e = .returned (.string (bs (unbomL b))) ∧ W = w') := by
 refine (libTrimPrefix (bs b) (bs bomW) W).mono ?_
 rintro e w' ⟨rfl, rfl⟩
 rw [bs_list, bs_list, (pre_lib bomW b).2]
 have : (wordL bomW b).getD b = unbomL b := by
  unfold wordL unbomL
  split <;> rfl
 rw [this]
 exact ⟨rfl, rfl⟩
theorem below_of_off {w w' : World} (h : Off (fun _ => False) w w') : Below w.heap.size w w' := ⟨h.os, h.tape, h.output, h.size, fun k hk => h.block k hk (fun h => h)⟩
def PaO (o : XV × Int) (w : World) (e : Ending) (w' : World) : Prop :=
 Below w.heap.size w w' ∧ ∃ x, e = .returned (.tuple #[x, .int .i64 o.2]) ∧ XR w' (fun b => w.heap.size ≤ b ∧ b < w'.heap.size) o.1 x
theorem PaO.bad {o : XV × Int} {w w' : World} {k : Int} (h : o = (zeroX, k)) (ho : Off (fun _ => False) w w') : PaO o w (.returned (.tuple #[zNV, .int .i64 k])) w' := by
 subst h
 exact ⟨below_of_off ho, _, rfl, xr_zero _ _⟩
theorem ein0 {S : Nat} {s : Bt} {w : World} (hm : ML w) (hs : ScR S 2 scope0 w) (hmS : 0 ≠ S) (hl : s.length ≤ 65536) : EIn w.heap.size S 2 0 scope0 s (w.alloc (.cells #[.string (bs s), .int .i64 0, ScV S 2 2] TRd (0, 0))) := by
 have hb := below_alloc8 w (.cells #[.string (bs s), .int .i64 0, ScV S 2 2] TRd (0, 0))
 have h1 := hs.lt
 have h2 := hm.lt
 have h3 : scope0.length = 2 := rfl
 exact ⟨Blk.new _ w, hs.off (Off.of_below hb) (fun h => h), hm.below hb, by omega, hmS, by omega, by omega, by omega, fun d hd => (by decide : ∀ d ∈ scope0, d.2.length ≤ 100000) d hd, by decide⟩
set_option maxRecDepth 100000 in
set_option maxHeartbeats 40000000 in
theorem parse_any8 {b : Bt} {A : Option Addr} {n c : Nat} {w : World} (hn : b.length = n) (hb : RB w A b) (hm : ML w) :
    Calls Tryz.prog 10 #[.slice A n c] w (PaO (parseX b) w) := by
 have hB := below_alloc8 w ZN
 have HB := hid hB
 obtain ⟨Z, hZe⟩ : ∃ Z, w.heap.size = Z := ⟨_, rfl⟩
 have hZ : Blk Z ZN (w.alloc ZN) := by have := Blk.new ZN w; rwa [hZe] at this
 have HZ := hid hZ
 have hZw : w.heap.size ≤ Z := Nat.le_of_eq hZe
 have hO0 : Off (fun _ => False) w (w.alloc ZN) := Off.ofB hB
 by_cases hbig : 65536 < b.length
 ·have hbi : (65536 : Int) < (n : Int) := by omega
  have HO : Hid (parseX b = (zeroX, 72)) := hid (by unfold parseX; rw [if_pos hbig])
  have HO0 := hid hO0
  clear hb hm hn hB hZ hbig hO0
  go_enter Tryz.func10, Tryz.ntmps10
  go_wp2
  have hE := HZ.out
  have d0 := hE.cell 0
  have d1 := hE.cell 1
  have d2 := hE.cell 2
  have d3 := hE.cell 3
  have d4 := hE.cell 4
  refine bodyPost_ret (v := .tuple #[zNV, .int .i64 72]) ?_ rfl ?_
  ·simp [results, Tryz.results10, go_sem, d0, d1, d2, d3, d4]
  exact PaO.bad HO.out HO0.out
 ·have hbi : ¬ (65536 : Int) < (n : Int) := by omega
  have hcv := conv_slice8 c hn (hb.below hB)
  have HT := hid (fun W => trim_bom b W)
  have hul := unbom_len b
  have HP := hid (fun W => isPlain_any (unbomL b) (by omega) W)
  have hX : parseX b = if plainB (unbomL b) = true then docX (unbomL b) else (zeroX, 70) := by unfold parseX; rw [if_neg hbig]
  have HX := hid hX
  have HO0 := hid hO0
  have HM := hid (hm.below hB)
  have hus : (unbomL b).length ≤ 65536 := by omega
  have HMl := hid hm.lt
  clear hb hm hn hB hZ hbig hO0 hX hul
  generalize unbomL b = s at *
  cases hp : plainB s with
  | false =>
   have HO : Hid (parseX b = (zeroX, 70)) := hid (by rw [HX.out, hp]; rfl)
   rw [hp] at HP
   clear HX hp
   go_enter Tryz.func10, Tryz.ntmps10
   go_wp2_with (first
    | (go_at_call 27; (with_reducible refine (HT.out _).mono ?_); rintro e w1 ⟨rfl, rfl⟩)
    | (go_at_call 28; (with_reducible refine (HP.out _).mono ?_); rintro e w2 ⟨rfl, b2⟩; have z2 := (Off.of_below b2).blk HZ.out (fun h => h); have q0 := z2.cell 0; have q1 := z2.cell 1; have q2 := z2.cell 2; have q3 := z2.cell 3; have q4 := z2.cell 4; have qf0 := z2.free 0; have qf1 := z2.free 1; have qf2 := z2.free 2; have qf3 := z2.free 3; have qf4 := z2.free 4; have ql := z2.lt; have HZ2 := hid z2; have HO2 := hid (HO0.out.thenB b2); clear z2 b2))
   have hE := five_set (a := .string ⟨#[]⟩) (b := .string ⟨#[]⟩) (c := .slice none 0 0) (d := .slice none 0 0) (e := .string ⟨#[]⟩) HZ2.out
   have d0 := hE.cell 0
   have d1 := hE.cell 1
   have d2 := hE.cell 2
   have d3 := hE.cell 3
   have d4 := hE.cell 4
   refine bodyPost_ret (v := .tuple #[zNV, .int .i64 70]) ?_ rfl ?_
   ·simp [results, Tryz.results10, go_sem, d0, d1, d2, d3, d4]
   exact PaO.bad HO.out (((((HO2.out.new hZw _ _).new hZw _ _).new hZw _ _).new hZw _ _).new hZw _ _)
  | true =>
      have HO : Hid (parseX b = docX s) := hid (by rw [HX.out, hp]; rfl)
      rw [hp] at HP
      clear HX hp
      have HSc := hid (fun W => scope0_any W)
      have HD := hid (fun R S W (hW : EIn R S 2 0 scope0 s W) => document_any hW)
      unfold DOut at HD
      obtain ⟨x, hx⟩ : ∃ x, docX s = x := ⟨_, rfl⟩
      rw [hx] at HD HO
      obtain ⟨v, k⟩ := x
      simp only at HD
      clear hx
      go_enter Tryz.func10, Tryz.ntmps10
      go_wp2_with (first
       | (go_at_call 27; (with_reducible refine (HT.out _).mono ?_); rintro e w1 ⟨rfl, rfl⟩)
       | (go_at_call 28; (with_reducible refine (HP.out _).mono ?_); rintro e w2 ⟨rfl, b2⟩; have HZ2 := hid ((Off.of_below b2).blk HZ.out (fun h => h)); have HO2 := hid (HO0.out.thenB b2); have HM2 := hid (HM.out.below b2); clear b2)
       | (go_at_call 29; (with_reducible refine (HSc.out _).mono ?_); rintro e w3 ⟨rfl, sc3, b3⟩; have hl2 := HZ2.out.lt; have hs2 := b3.size; have hl3 := sc3.lt; have HSz := hid (And.intro hl2 (And.intro hs2 hl3)); obtain ⟨S, hS⟩ : ∃ S, w2.heap.size = S := ⟨_, rfl⟩; rw [hS] at sc3 HSz; have HSC := hid sc3; have HZ3 := hid ((Off.of_below b3).blk HZ2.out (fun h => h)); have HO3 := hid (HO2.out.thenB b3); have HM3 := hid (HM2.out.below b3); clear b3 hl2 hs2 hl3 sc3)
       | (go_at_call 30; (with_reducible refine (HD.out _ _ _ (ein0 HM3.out HSC.out (by have := HSz.out.1; have := HMl.out; have := hZw; omega) hus)).mono ?_); rintro e w4 ⟨o4, x, rfl, hx⟩; obtain ⟨aA, ac, kA, kc, rfl⟩ := xr_one hx; have z4 := o4.blk (HZ3.out.alloc8 (o' := .cells #[.string (bs s), .int .i64 0, ScV S 2 2] TRd (0, 0))) (fun e => by have := HZ3.out.lt; have := HSz.out.1; omega); have q0 := z4.cell 0; have q1 := z4.cell 1; have q2 := z4.cell 2; have q3 := z4.cell 3; have q4 := z4.cell 4; have qf0 := z4.free 0; have qf1 := z4.free 1; have qf2 := z4.free 2; have qf3 := z4.free 3; have qf4 := z4.free 4; have ql := z4.lt; have HZ4 := hid z4; have HX4 := hid hx; have HO4 : Hid (Off (fun _ => False) w w4) := hid ((HO3.out.thenB (below_alloc8 w3 (.cells #[.string (bs s), .int .i64 0, ScV S 2 2] TRd (0, 0)))).trans o4 (fun b e => Or.inr (e.elim (fun e => by have := HO3.out.size; omega) (fun e => by have := HSz.out.1; omega)))); have HS4 := hid HO3.out.size; clear o4 z4 hx))
      have hE := five_set (a := sV v.space) (b := sV v.name) (c := .slice aA v.attrs.length ac) (d := .slice kA v.kids.length kc) (e := sV v.text) HZ4.out
      have d0 := hE.cell 0
      have d1 := hE.cell 1
      have d2 := hE.cell 2
      have d3 := hE.cell 3
      have d4 := hE.cell 4
      have oz := ((((off_set8 w4 Z 0 (sV v.space)).then (off_set8 _ Z 1 (sV v.name))).then (off_set8 _ Z 2 (.slice aA v.attrs.length ac))).then (off_set8 _ Z 3 (.slice kA v.kids.length kc))).then (off_set8 _ Z 4 (sV v.text))
      refine bodyPost_ret (v := .tuple #[.agg #[sV v.space, sV v.name, .slice aA v.attrs.length ac, .slice kA v.kids.length kc, sV v.text], .int .i64 k]) ?_ rfl ?_
      ·simp [results, Tryz.results10, go_sem, d0, d1, d2, d3, d4]
      refine ⟨below_of_off (((((HO4.out.new hZw _ _).new hZw _ _).new hZw _ _).new hZw _ _).new hZw _ _), _, by rw [HO.out], ?_⟩
      rw [HO.out]
      have hs3 := HS4.out
      have hZ3 := HZ3.out.lt
      exact XR.mono (fun b hb => ⟨by have := hb.1; simp at this; omega, Nat.lt_of_lt_of_le hb.2 oz.size⟩) _ _ (XR.off oz (fun b hb e => by have := hb.1; simp at this; omega) _ _ HX4.out)
theorem to_has (c : UInt8) : ∀ s : Bt, (toL [c] s).isSome = s.contains c
 | [] => rfl
 | d :: s => by
  have ih := to_has c s
  rw [toL]
  by_cases h : c = d
  ·subst h
   simp [List.isPrefixOf]
  ·have hp : ([c] : Bt).isPrefixOf (d :: s) = false := by simp [List.isPrefixOf, h]
   rw [if_neg (by rw [hp]; exact Bool.false_ne_true), List.contains_cons, beq_false_of_ne h, Bool.false_or, ← ih]
   cases toL [c] s <;> rfl
theorem openB_eq (s : Bt) : openB s = (plainB s && !(toL [13] s).isSome) := by rw [to_has]; rfl
def BoO (b : Bool) (w : World) (e : Ending) (w' : World) : Prop := e = .returned (.bool b) ∧ Below w.heap.size w w'
theorem BoO.of {b c : Bool} {w w' : World} (h : b = c) (hb : Below w.heap.size w w') : BoO b w (.returned (.bool c)) w' := by subst h; exact ⟨rfl, hb⟩
set_option maxRecDepth 100000 in
theorem writable_any (s : Bt) (hs : s.length ≤ 1000000) (w : World) (hm : ML w) : Calls Tryz.prog 62 #[.string (bs s)] w (BoO (openB s) w) := by
 have HO := hid (openB_eq s)
 have HP := hid (isPlain_any s hs w)
 have HC : Hid (∀ W, ML W → Calls Tryz.prog 90 #[.string (bs s), .string ⟨#[13]⟩] W (fun e w' => e = .returned (.bool (toL [13] s).isSome) ∧ W = w')) := hid (fun W hW => contL_any [13] s (by decide) (by omega) W hW)
 have HM := hid hm
 obtain ⟨b1, h1⟩ : ∃ b, plainB s = b := ⟨_, rfl⟩
 obtain ⟨b2, h2⟩ : ∃ b, (toL [13] s).isSome = b := ⟨_, rfl⟩
 obtain ⟨o, ho⟩ : ∃ b, openB s = b := ⟨_, rfl⟩
 rw [h1, h2, ho] at HO
 rw [h1] at HP
 rw [h2] at HC
 rw [ho]
 clear hm hs h1 h2 ho
 cases b1 with
 | false =>
  go_enter Tryz.func62, Tryz.ntmps62
  go_wp2_with (go_at_call 28; (with_reducible refine HP.out.mono ?_); rintro e w1 ⟨rfl, b1⟩; have HB := hid b1; clear b1)
  go_ret
  exact BoO.of HO.out HB.out
 | true =>
  go_enter Tryz.func62, Tryz.ntmps62
  go_wp2_with (first
   | (go_at_call 28; (with_reducible refine HP.out.mono ?_); rintro e w1 ⟨rfl, b1⟩; have HB := hid b1; clear b1)
   | (go_at_call 90; (with_reducible refine (HC.out _ (HM.out.below HB.out)).mono ?_); rintro e w2 ⟨rfl, rfl⟩))
  go_ret
  exact BoO.of HO.out HB.out
set_option maxRecDepth 100000 in
theorem rightName_any (s : Bt) (hs : s.length ≤ 1000000) (w : World) (hm : ML w) : Calls Tryz.prog 61 #[.string (bs s)] w (BoO (rightNameB s) w) := by
 have HO : Hid (rightNameB s = (isNameL s && openB s)) := hid rfl
 have HP := hid (isName_any s w (by omega))
 have HC := hid (writable_any s hs w hm)
 unfold BoO at HC
 obtain ⟨b1, h1⟩ : ∃ b, isNameL s = b := ⟨_, rfl⟩
 obtain ⟨b2, h2⟩ : ∃ b, openB s = b := ⟨_, rfl⟩
 obtain ⟨o, ho⟩ : ∃ b, rightNameB s = b := ⟨_, rfl⟩
 rw [h1, h2, ho] at HO
 rw [h1] at HP
 rw [h2] at HC
 rw [ho]
 clear hm hs h1 h2 ho
 cases b1 with
 | false =>
  go_enter Tryz.func61, Tryz.ntmps61
  go_wp2_with (go_at_call 89; (with_reducible refine HP.out.mono ?_); rintro e w1 ⟨rfl, rfl⟩)
  go_ret
  exact BoO.of HO.out (Below.refl _ _)
 | true =>
  go_enter Tryz.func61, Tryz.ntmps61
  go_wp2_with (first
   | (go_at_call 89; (with_reducible refine HP.out.mono ?_); rintro e w1 ⟨rfl, rfl⟩)
   | (go_at_call 62; (with_reducible refine HC.out.mono ?_); rintro e w2 ⟨rfl, b2⟩; have HB := hid b2; clear b2))
  go_ret
  exact BoO.of HO.out HB.out
set_option maxRecDepth 100000 in
theorem isText_any {w W : World} {T : Nat → Prop} {v : XV} {x : Value} (h : XR W T v x) : Calls Tryz.prog 65 #[x] w (BoO (v.name == []) w) := by
 obtain ⟨aA, ac, kA, kc, rfl⟩ := xr_one h
 have HB := hid (below_alloc8 w (.cells #[sV v.space, sV v.name, .slice aA v.attrs.length ac, .slice kA v.kids.length kc, sV v.text] TNo))
 clear h
 obtain ⟨nm, hnm⟩ : ∃ n, v.name = n := ⟨_, rfl⟩
 rw [hnm] at HB ⊢
 by_cases h0 : nm = []
 ·have HO : Hid ((nm == []) = true) := hid (by rw [h0]; rfl)
  have hs : (bs nm).toList = [] := by rw [bs_toList]; exact h0
  clear h0
  go_enter Tryz.func65, Tryz.ntmps65
  go_wp2
  go_ret
  exact BoO.of HO.out HB.out
 ·have HO : Hid ((nm == []) = false) := hid (beq_false_of_ne h0)
  have hs : ¬ (bs nm).toList = [] := by rw [bs_toList]; exact h0
  have hs2 : (bs nm).toList.isEmpty = false := by rw [bs_toList]; cases hq : nm with | nil => exact absurd hq h0 | cons => rfl
  clear h0
  go_enter Tryz.func65, Tryz.ntmps65
  go_wp2
  go_ret
  exact BoO.of HO.out HB.out
set_option maxRecDepth 100000 in
theorem rightText_any {w : World} {T : Nat → Prop} {v : XV} {x : Value} (h : XR w T v x) (hl : v.text.length ≤ 1000000) (hm : ML w) : Calls Tryz.prog 92 #[x] w (BoO (rightTextB v) w) := by
 obtain ⟨aA, ac, kA, kc, rfl⟩ := xr_one h
 have hB := below_alloc8 w (.cells #[sV v.space, sV v.name, .slice aA v.attrs.length ac, .slice kA v.kids.length kc, sV v.text] TNo)
 have HB := hid hB
 have hX := Blk.new (.cells #[sV v.space, sV v.name, .slice aA v.attrs.length ac, .slice kA v.kids.length kc, sV v.text] TNo) w
 have HX := hid hX
 have HW := hid (writable_any v.text hl _ (hm.below hB))
 unfold BoO at HW
 have HO : Hid (rightTextB v = (!(v.text == []) && openB v.text && v.space == [] && decide (v.attrs.length = 0) && decide (v.kids.length = 0))) := hid (by
  unfold rightTextB
  cases v.attrs <;> cases v.kids <;> rfl)
 obtain ⟨tx, htx⟩ : ∃ n, v.text = n := ⟨_, rfl⟩
 obtain ⟨sp, hsp⟩ : ∃ n, v.space = n := ⟨_, rfl⟩
 obtain ⟨nA, hnA⟩ : ∃ n, v.attrs.length = n := ⟨_, rfl⟩
 obtain ⟨nK, hnK⟩ : ∃ n, v.kids.length = n := ⟨_, rfl⟩
 obtain ⟨o, ho⟩ : ∃ n, rightTextB v = n := ⟨_, rfl⟩
 obtain ⟨ot, hot⟩ : ∃ n, openB tx = n := ⟨_, rfl⟩
 rw [htx, hsp, hnA, hnK, ho, hot] at HO
 rw [htx, hsp, hnA, hnK] at HX HB HW
 rw [hot] at HW
 rw [htx, hsp, hnA, hnK, ho]
 clear h hl hm hB hX htx hsp hnA hnK ho hot
 by_cases h1 : tx = []
 ·have HO1 : Hid (o = false) := hid (by rw [HO.out, h1]; rfl)
  have hs : (bs tx).toList = [] := by rw [bs_toList]; exact h1
  clear h1 HO
  go_enter Tryz.func92, Tryz.ntmps92
  go_wp2
  go_ret
  exact BoO.of HO1.out HB.out
 ·have hb1 : (tx == []) = false := beq_false_of_ne h1
  have hs : ¬ (bs tx).toList = [] := by rw [bs_toList]; exact h1
  have hs2 : (bs tx).toList.isEmpty = false := by rw [bs_toList]; cases hq : tx with | nil => exact absurd hq h1 | cons => rfl
  rw [hb1] at HO
  clear h1 hb1
  cases ot with
  | false =>
   have HO1 : Hid (o = false) := hid (by rw [HO.out]; rfl)
   clear HO
   go_enter Tryz.func92, Tryz.ntmps92
   go_wp2_with (go_at_call 62; (with_reducible refine HW.out.mono ?_); rintro e w1 ⟨rfl, b1⟩; have x1 := (Off.of_below b1).blk HX.out (fun h => h); have y0 := x1.cell 0; have y1 := x1.cell 1; have y2 := x1.cell 2; have y3 := x1.cell 3; have y4 := x1.cell 4; have HB1 := hid (HB.out.trans (b1.mono (by simp))); clear x1 b1)
   go_ret
   exact BoO.of HO1.out HB1.out
  | true =>
   by_cases h2 : sp = []
   ·have hs3 : (bs sp).toList = [] := by rw [bs_toList]; exact h2
    have hb2 : (sp == []) = true := by rw [h2]; rfl
    rw [hb2] at HO
    clear h2 hb2
    by_cases h3 : nA = 0
    ·subst h3
     by_cases h4 : nK = 0
     ·subst h4
      have HO1 : Hid (o = true) := hid (by rw [HO.out]; rfl)
      clear HO
      go_enter Tryz.func92, Tryz.ntmps92
      go_wp2_with (go_at_call 62; (with_reducible refine HW.out.mono ?_); rintro e w1 ⟨rfl, b1⟩; have x1 := (Off.of_below b1).blk HX.out (fun h => h); have y0 := x1.cell 0; have y1 := x1.cell 1; have y2 := x1.cell 2; have y3 := x1.cell 3; have y4 := x1.cell 4; have HB1 := hid (HB.out.trans (b1.mono (by simp))); clear x1 b1)
      go_ret
      exact BoO.of HO1.out HB1.out
     ·have hi : ¬ ((nK : Int) = 0) := by omega
      have hi2 : ((nK : Int) == 0) = false := by rw [beq_eq_false_iff_ne]; omega
      have HO1 : Hid (o = false) := hid (by rw [HO.out, decide_eq_false h4]; rfl)
      clear HO
      go_enter Tryz.func92, Tryz.ntmps92
      go_wp2_with (go_at_call 62; (with_reducible refine HW.out.mono ?_); rintro e w1 ⟨rfl, b1⟩; have x1 := (Off.of_below b1).blk HX.out (fun h => h); have y0 := x1.cell 0; have y1 := x1.cell 1; have y2 := x1.cell 2; have y3 := x1.cell 3; have y4 := x1.cell 4; have HB1 := hid (HB.out.trans (b1.mono (by simp))); clear x1 b1)
      go_ret
      exact BoO.of HO1.out HB1.out
    ·have hi : ¬ ((nA : Int) = 0) := by omega
     have hi2 : ((nA : Int) == 0) = false := by rw [beq_eq_false_iff_ne]; omega
     have HO1 : Hid (o = false) := hid (by rw [HO.out, decide_eq_false h3]; rfl)
     clear HO
     go_enter Tryz.func92, Tryz.ntmps92
     go_wp2_with (go_at_call 62; (with_reducible refine HW.out.mono ?_); rintro e w1 ⟨rfl, b1⟩; have x1 := (Off.of_below b1).blk HX.out (fun h => h); have y0 := x1.cell 0; have y1 := x1.cell 1; have y2 := x1.cell 2; have y3 := x1.cell 3; have y4 := x1.cell 4; have HB1 := hid (HB.out.trans (b1.mono (by simp))); clear x1 b1)
     go_ret
     exact BoO.of HO1.out HB1.out
   ·have hb2 : (sp == []) = false := beq_false_of_ne h2
    have hs3 : ¬ (bs sp).toList = [] := by rw [bs_toList]; exact h2
    have hs32 : (bs sp).toList.isEmpty = false := by rw [bs_toList]; cases hq : sp with | nil => exact absurd hq h2 | cons => rfl
    rw [hb2] at HO
    have HO1 : Hid (o = false) := hid (by rw [HO.out]; rfl)
    clear HO h2 hb2
    go_enter Tryz.func92, Tryz.ntmps92
    go_wp2_with (go_at_call 62; (with_reducible refine HW.out.mono ?_); rintro e w1 ⟨rfl, b1⟩; have x1 := (Off.of_below b1).blk HX.out (fun h => h); have y0 := x1.cell 0; have y1 := x1.cell 1; have y2 := x1.cell 2; have y3 := x1.cell 3; have y4 := x1.cell 4; have HB1 := hid (HB.out.trans (b1.mono (by simp))); clear x1 b1)
    go_ret
    exact BoO.of HO1.out HB1.out
def SmallA3 (l : List XA) : Prop := ∀ a ∈ l, a.1.length ≤ 100000 ∧ a.2.1.length ≤ 100000 ∧ a.2.2.length ≤ 100000
set_option maxRecDepth 100000 in
set_option maxHeartbeats 4000000 in
theorem rightAttrs_any {T : Nat → Prop} {A : Option Addr} {c : Nat} {l : List XA} {w : World} (hR : RC w T A (cA l)) (hs : SmallA3 l) (hl : l.length ≤ 1000000) (hm : ML w) :
    Calls Tryz.prog 63 #[.slice A l.length c] w (BoO (rightAttrsB l) w) := by
 obtain ⟨n, hn⟩ : ∃ n, l.length = n := ⟨_, rfl⟩
 obtain ⟨o, ho⟩ : ∃ o, rightAttrsB l = o := ⟨_, rfl⟩
 have HO := hid ho
 have HN := hid hn
 have HR := hid hR
 have HS := hid hs
 have HM := hid hm
 have HU := hid (fun W (hW : RC W T A (cA l)) => unique_any (c := c) hW (fun a ha => ⟨(hs a ha).1, (hs a ha).2.1⟩) hl)
 rw [hn] at HU hl ⊢
 rw [ho]
 clear hR hs hn hm ho
 go_enter Tryz.func63, Tryz.ntmps63
 go_wp2
 go_loopw [2, 7] (fun a2 i wr => a2 = .bool false ∧ ∃ k : Nat, k ≤ n ∧ i = .int .i64 k ∧ Hid (Below w.heap.size w wr) ∧ Hid ((l.take k).all rightAttrB = true)) (fun _ i _ => n - (RowKit.intOf i).toNat)
 case atStart => exact ⟨rfl, 0, Nat.zero_le _, rfl, hid (Below.refl _ _), hid rfl⟩
 case round =>
  obtain ⟨rfl, k, hk, rfl, HB, HQ⟩ := hrel
  by_cases hlt : k < n
  ·have hkl : k < l.length := by rw [HN.out]; exact hlt
   obtain ⟨bb, off, hAe, hT, hbl, hcl⟩ := HR.out (by rw [cA_len]; omega)
   obtain ⟨c0, c1, c2⟩ := RC.a3 hcl k hkl
   have hsa := HS.out _ (List.getElem_mem hkl)
   have HTK := hid (List.take_succ_eq_append_getElem hkl)
   have HNO := hid (fun (h : rightAttrB l[k] = false) => right_attrs_no hkl h)
   obtain ⟨a, ha⟩ : ∃ a, l[k] = a := ⟨_, rfl⟩
   rw [ha] at c0 c1 c2 hsa HTK HNO
   have hb := HB.out
   have y0 := (hb.cell (p := ⟨bb, off + k * 3, none⟩) hbl).trans c0
   have y1 := (hb.cell (p := ⟨bb, off + k * 3 + 1, none⟩) hbl).trans c1
   have y2 := (hb.cell (p := ⟨bb, off + k * 3 + 2, none⟩) hbl).trans c2
   subst hAe
   obtain ⟨⟨sp, nm, vl⟩, rfl⟩ : ∃ x : XA, a = x := ⟨_, rfl⟩
   simp only at y0 y1 y2 hsa
   have hB1 := below_alloc8 wr (.cells #[sV sp, sV nm, sV vl] TA3 (0, 0))
   have HB1 : Hid (Below w.heap.size w (wr.alloc (.cells #[sV sp, sV nm, sV vl] TA3 (0, 0)))) := hid (hb.trans (hB1.mono hb.size))
   have HX := hid (Blk.new (.cells #[sV sp, sV nm, sV vl] TA3 (0, 0)) wr)
   have HRN := hid (rightName_any nm (by omega) _ (HM.out.below HB1.out))
   have HVL := hid (fun W (hW : ML W) => writable_any vl (by omega) W hW)
   unfold BoO at HRN HVL
   have HAE : Hid (rightAttrB (sp, nm, vl) = (sp == [] && !(nm == xmlnsW) && rightNameB nm && openB vl)) := hid rfl
   obtain ⟨b1, hb1⟩ : ∃ b, rightNameB nm = b := ⟨_, rfl⟩
   obtain ⟨b2, hb2⟩ : ∃ b, openB vl = b := ⟨_, rfl⟩
   rw [hb1] at HRN HAE
   rw [hb2] at HVL HAE
   have HS3 := hid hsa
   clear c0 c1 c2 hcl ha hb hB1 hb1 hb2 hsa
   by_cases h1 : sp = []
   ·have hs1 : (bs sp).toList = [] := by rw [bs_toList]; exact h1
    by_cases h2 : nm = xmlnsW
    ·have hr : ((bs nm).toList == [120, 109, 108, 110, 115]) = true := by rw [bs_toList, h2]; rfl
     have hr2 : (bs nm).toList = [120, 109, 108, 110, 115] := by rw [bs_toList, h2]; rfl
     have HF : Hid (o = false) := hid (by rw [← HO.out]; exact HNO.out (by rw [HAE.out, h2]; cases (sp == []) <;> rfl))
     clear h1 h2
     go_wp2
     go_ret
     exact BoO.of HF.out HB1.out
    ·have hr : ((bs nm).toList == [120, 109, 108, 110, 115]) = false := by rw [bs_toList]; exact beq_eq_false_iff_ne.2 h2
     have hr2 : ¬ (bs nm).toList = [120, 109, 108, 110, 115] := by rw [bs_toList]; exact h2
     cases b1 with
     | false =>
      have HF : Hid (o = false) := hid (by rw [← HO.out]; exact HNO.out (by rw [HAE.out]; cases (sp == []) <;> cases (nm == xmlnsW) <;> rfl))
      clear h1 h2
      go_wp2_with (go_at_call 61; (with_reducible refine HRN.out.mono ?_); rintro e w1 ⟨rfl, b3⟩; have x3 := (Off.of_below b3).blk HX.out (fun h => h); have q0 := x3.cell 0; have q1 := x3.cell 1; have q2 := x3.cell 2; have HB3 := hid (HB1.out.trans (b3.mono HB1.out.size)); clear x3 b3)
      go_ret
      exact BoO.of HF.out HB3.out
     | true =>
      cases b2 with
      | false =>
       have HF : Hid (o = false) := hid (by rw [← HO.out]; exact HNO.out (by rw [HAE.out]; cases (sp == []) <;> cases (nm == xmlnsW) <;> rfl))
       clear h1 h2
       go_wp2_with (first | (go_at_call 61; (with_reducible refine HRN.out.mono ?_); rintro e w1 ⟨rfl, b3⟩; have x3 := (Off.of_below b3).blk HX.out (fun h => h); have q0 := x3.cell 0; have q1 := x3.cell 1; have q2 := x3.cell 2; have HB3 := hid (HB1.out.trans (b3.mono HB1.out.size)); clear x3 b3) | (go_at_call 62; (with_reducible refine (HVL.out _ (HM.out.below HB3.out)).mono ?_); rintro e w2 ⟨rfl, b4⟩; have HB4 := hid (HB3.out.trans (b4.mono HB3.out.size)); clear b4))
       go_ret
       exact BoO.of HF.out HB4.out
      | true =>
       have HT : Hid ((l.take (k + 1)).all rightAttrB = true) := hid (by rw [HTK.out, List.all_append, HQ.out, List.all_cons, List.all_nil, HAE.out, h1, beq_false_of_ne h2]; rfl)
       clear h1 h2
       go_wp2_with (first | (go_at_call 61; (with_reducible refine HRN.out.mono ?_); rintro e w1 ⟨rfl, b3⟩; have x3 := (Off.of_below b3).blk HX.out (fun h => h); have q0 := x3.cell 0; have q1 := x3.cell 1; have q2 := x3.cell 2; have HB3 := hid (HB1.out.trans (b3.mono HB1.out.size)); clear x3 b3) | (go_at_call 62; (with_reducible refine (HVL.out _ (HM.out.below HB3.out)).mono ?_); rintro e w2 ⟨rfl, b4⟩; have HB4 := hid (HB3.out.trans (b4.mono HB3.out.size)); clear b4))
       go_roundw
       case rel => exact ⟨rfl, k + 1, by omega, by go_num, HB4, HT⟩
       case measure => simp [RowKit.intOf]; omega
   ·have HF : Hid (o = false) := hid (by rw [← HO.out]; exact HNO.out (by rw [HAE.out, beq_false_of_ne h1]; rfl))
    have hs1 : ¬ (bs sp).toList = [] := by rw [bs_toList]; exact h1
    have hs12 : (bs sp).toList.isEmpty = false := by rw [bs_toList]; cases hq : sp with | nil => exact absurd hq h1 | cons => rfl
    clear h1
    go_wp2
    go_ret
    exact BoO.of HF.out HB1.out
  ·obtain rfl : k = n := by omega
   have htk : l.take k = l := List.take_of_length_le (by rw [HN.out]; exact Nat.le_refl _)
   rw [htk] at HQ
   have HF : Hid (o = uniqX l) := hid (by rw [← HO.out]; exact right_attrs HQ.out)
   clear htk
   go_wp2_with (go_at_call 91; (with_reducible refine (HU.out _ (HR.out.off (Off.of_below HB.out) (fun _ _ h => h))).mono ?_); rintro e w1 ⟨rfl, b1⟩; have HB3 := hid (HB.out.trans (b1.mono HB.out.size)); clear b1)
   go_ret
   exact BoO.of HF.out HB3.out
end Go.Proofs.YtklcjimmbkpbdaaGreatDoor
