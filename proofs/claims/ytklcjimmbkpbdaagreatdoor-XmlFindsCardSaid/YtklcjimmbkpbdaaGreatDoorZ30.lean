/-
  The program's element. Conditions: documents of modest length; the library's variable MaxLen holds an int.
-/
import Derived.Test.YtklcjimmbkpbdaaGreatDoorZ29
namespace Go.Proofs.YtklcjimmbkpbdaaGreatDoor
open Go.RowKit
open Go.Lib

theorem elem_tag (d : Nat) (sc : XS) (s : Bt) : elemX d sc s = match tagX s with
    | none => .error 70
    | some ((nm, ms, closed), s2) => match startX sc nm ms with
      | none => .error 70
      | some (v, sc') => if d = 24 then .error 71 else if closed = true then .ok (v, s2) else
        match kidsX (d + 1) sc' s2 [] [] with
        | .error e => .error e
        | .ok (ks, s3) => match endX nm s3 with
          | none => .error 70
          | some s4 => .ok (v.withKids ks, s4) := by
  rw [elemX_eq]
  unfold tagX
  cases markL s with
  | none => rfl
  | some x =>
    obtain ⟨nm, s1⟩ := x
    simp only
    cases tagL s1 with
    | none => rfl
    | some y => rfl
theorem tagX_parts {s r : Bt} {nm : XN} {ms : List XM} {c : Bool} (h : tagX s = some ((nm, ms, c), r)) : nm.1.length ≤ s.length ∧ nm.2.length ≤ s.length ∧ (∀ m ∈ ms, m.1.1.length ≤ s.length ∧ m.1.2.length ≤ s.length ∧ m.2.length ≤ s.length) ∧ ms.length + r.length < s.length := by
  unfold tagX at h
  cases h1 : markL s with
  | none => rw [h1] at h; cases h
  | some x =>
    obtain ⟨nm1, s1⟩ := x
    simp only [h1] at h
    cases h2 : tagL s1 with
    | none => rw [h2] at h; cases h
    | some y =>
      obtain ⟨ms1, c1, r1⟩ := y
      rw [h2] at h
      injection h with h
      injection h with e1 e2
      injection e1 with e1 e3
      injection e3 with e3 e4
      simp only at e1 e2 e3 e4
      subst e1; subst e2; subst e3; subst e4
      have g1 := mark_parts h1
      have g2 := tag_parts _ (Nat.le_refl _) h2
      have g3 := mark_len h1
      exact ⟨by omega, by omega, fun m hm => by have := g2.1 m hm; omega, by omega⟩
theorem EOut.bad {R S cap d : Nat} {l : XS} {w w' : World} {o : Except Int (XV × Bt)} {k : Int} (h : o = .error k) (hk : k ≠ 0) (ho : Off (fun b => b = R ∨ b = S) w w') : EOut R S cap d l w o (.returned (.tuple #[zNV, .int .i64 k])) w' := by
  subst h
  exact ⟨ho, hk, rfl⟩
-- (written by genxar.py from here on)
set_option maxRecDepth 100000 in
set_option maxHeartbeats 40000000 in
theorem element_none {R S cap d : Nat} {l : XS} {s : Bt} {w : World} (hI : EIn R S cap d l s w) (ht : tagX s = none) :
    Calls Tryz.prog 53 #[.pointer (some ⟨R, 0, none⟩)] w (EOut R S cap d l w (elemX d l s)) := by
  have hB := below_alloc8 w ZN
  have HB := Lib.hid hB
  have hZ : Blk w.heap.size ZN (w.alloc ZN) := Blk.new ZN w
  have HZ := Lib.hid hZ
  have hRl := hI.rd.lt
  have HT := Lib.hid (tag_any (hI.rd.below hB) (hI.ml.below hB) hI.neR (by have := hI.short; omega))
  have HO : Hid (elemX d l s = .error 70) := Lib.hid (by rw [elem_tag, ht])
  rw [ht] at HT
  unfold TOut at HT
  clear ht hI hB hZ
  go_enter Tryz.func53, Tryz.ntmps53
  go_wp2_with (go_at_call 80; (with_reducible refine HT.out.mono ?_); rintro e w1 ⟨o1, x, y, A, m, c, cl, rfl⟩; have z1 := o1.blk HZ.out (fun e => by omega); have c0 := z1.cell 0; have c1 := z1.cell 1; have c2 := z1.cell 2; have c3 := z1.cell 3; have c4 := z1.cell 4; have f0 := z1.free 0; have f1 := z1.free 1; have f2 := z1.free 2; have f3 := z1.free 3; have f4 := z1.free 4; have zl := z1.lt; have HO1 := Lib.hid o1; have HZ1 := Lib.hid z1; clear o1 z1)
  have hE := (five_set (a := .string ⟨#[]⟩) (b := .string ⟨#[]⟩) (c := .slice none 0 0) (d := .slice none 0 0) (e := .string ⟨#[]⟩) HZ1.out).alloc8 (o' := .cells #[.string (bs x), .string (bs y), .slice A m c, .bool cl] TTg)
  have d0 := hE.cell 0
  have d1 := hE.cell 1
  have d2 := hE.cell 2
  have d3 := hE.cell 3
  have d4 := hE.cell 4
  refine bodyPost_ret (v := .tuple #[zNV, .int .i64 70]) ?_ rfl ?_
  · simp [results, Tryz.results53, go_sem, d0, d1, d2, d3, d4]
  have hge := Nat.le_refl w.heap.size
  exact EOut.bad HO.out (by decide) ((((((((Off.ofB HB.out).then (HO1.out.mono (fun b e => Or.inl e))).new hge _ _).new hge _ _).new hge _ _).new hge _ _).new hge _ _).thenB (below_alloc8 _ _))
/-- What stands there behind the start of an element. -/
structure SoB (R S cap Z V d : Nat) (l : XS) (s2 : Bt) (tg : Array Value) (w : World) (M : Nat) (W : World) : Prop where
  rd : RS R s2 d (ScV S l.length cap) W
  sc : ScR S cap l W
  ml : ML W
  var : Blk V (.cells tg TTg (0, 0)) W
  zero : Blk Z ZN W
  off : Off (fun b => b = R ∨ b = S) w W
  keep : KeepS S l.length w W
  newM : w.heap.size ≤ M
  newZ : w.heap.size ≤ Z
  newV : w.heap.size ≤ V
  mz : M ≠ Z
  mv : M ≠ V
  zv : Z ≠ V
structure P5 where
  M : Nat
  x0 : Bt
  x1 : Bt
  A2 : Option Addr
  n2 : Nat
  c2 : Nat
  A3 : Option Addr
  n3 : Nat
  c3 : Nat
  x4 : Bt
  A : Option Addr
  n : Nat
  c : Nat
  b : Bool
def SoX (w : World) (l : XS) (nm : XN) (ms : List XM) (S Z V : Nat) (p : P5) (W : World) : Prop :=
  match startX l nm ms with
  | none => p.b = false
  | some (nd, l') => ∃ S', p.x0 = nd.space ∧ p.x1 = nd.name ∧ p.n2 = nd.attrs.length ∧ p.A3 = none ∧ p.n3 = 0 ∧ p.c3 = 0 ∧ p.x4 = [] ∧ p.A = some ⟨S', 0, none⟩ ∧ p.n = l'.length ∧ p.b = true ∧ ScR S' p.c l' W ∧ (S' = S ∨ w.heap.size ≤ S') ∧ RC W (fun b => (w.heap.size ≤ b ∧ b ≠ S') ∧ b < W.heap.size ∧ b ≠ Z ∧ b ≠ V ∧ b ≠ p.M) p.A2 (cA nd.attrs)
theorem SoX.off {w W W' : World} {l : XS} {nm : XN} {ms : List XM} {S Z V : Nat} {p : P5} {F : Nat → Prop} (h : SoX w l nm ms S Z V p W) (ho : Off F W W') (hS : ∀ b, F b → b = p.M ∨ W.heap.size ≤ b) (_hs : w.heap.size ≤ p.M) (hk : Blk p.M ZN W ∨ ∃ cs, Blk p.M (.cells cs TNo (0, 0)) W) (_hSl : S < w.heap.size) : SoX w l nm ms S Z V p W' := by
  unfold SoX at h ⊢
  cases hx : startX l nm ms with
  | none => rw [hx] at h; exact h
  | some y =>
    rw [hx] at h
    obtain ⟨nd, l'⟩ := y
    obtain ⟨S', e1, e2, e3, e4, e5, e6, e7, e8, e9, e10, hsc, hat, hr⟩ := h
    have hn : S' ≠ p.M := fun e => by
      obtain ⟨cur, hc, _⟩ := hsc
      rcases hk with hk | ⟨cs, hk⟩
      · rw [e] at hc
        have := hc.symm.trans hk
        injection this with h1
        injection h1 with _ h2
        exact absurd h2 (by decide)
      · rw [e] at hc
        have := hc.symm.trans hk
        injection this with h1
        injection h1 with _ h2
        exact absurd h2 (by decide)
    have hSn : ¬ F S' := fun e => (hS S' e).elim hn (fun e => by have := hsc.lt; omega)
    refine ⟨S', e1, e2, e3, e4, e5, e6, e7, e8, e9, e10, hsc.off ho hSn, hat, (hr.off ho (fun b hb e => (hS b e).elim (fun e => hb.2.2.2.2 e) (fun e => by omega))).mono (fun b hb => ⟨hb.1, Nat.lt_of_lt_of_le hb.2.1 ho.size, hb.2.2⟩)⟩
theorem SoX.below {w W W' : World} {l : XS} {nm : XN} {ms : List XM} {S Z V : Nat} {p : P5} (h : SoX w l nm ms S Z V p W) (ho : Below W.heap.size W W') : SoX w l nm ms S Z V p W' := by
  unfold SoX at h ⊢
  cases hx : startX l nm ms with
  | none => rw [hx] at h; exact h
  | some y =>
    rw [hx] at h
    obtain ⟨nd, l'⟩ := y
    obtain ⟨S', e1, e2, e3, e4, e5, e6, e7, e8, e9, e10, hsc, hat, hr⟩ := h
    exact ⟨S', e1, e2, e3, e4, e5, e6, e7, e8, e9, e10, hsc.off (Off.of_below ho) (fun h => h), hat, (hr.below ho).mono (fun b hb => ⟨hb.1, Nat.lt_of_lt_of_le hb.2.1 ho.size, hb.2.2⟩)⟩
/-- What the start of an element leaves, in one form. -/
theorem so_form {S : Nat} {l : XS} {nm : XN} {ms : List XM} {w W w' : World} {e : Ending} {Z V M : Nat} (hw : w.heap.size ≤ W.heap.size) (hZ : Z < W.heap.size) (hV : V < W.heap.size) (hM : M < W.heap.size ∨ w'.heap.size ≤ M) (h : SOut S l nm ms W e w') :
    ∃ p : P5, p.M = M ∧ e = .returned (.tuple #[.agg #[sV p.x0, sV p.x1, .slice p.A2 p.n2 p.c2, .slice p.A3 p.n3 p.c3, sV p.x4], .slice p.A p.n p.c, .bool p.b]) ∧ SoX w l nm ms S Z V p w' := by
  unfold SOut at h
  obtain ⟨_, _, h⟩ := h
  unfold SoX
  cases hx : startX l nm ms with
  | none =>
    rw [hx] at h
    obtain ⟨x0, x1, x4, A2, A3, n2, c2, n3, c3, v, rfl, A, n, c, rfl⟩ := h
    exact ⟨⟨M, x0, x1, A2, n2, c2, A3, n3, c3, x4, A, n, c, false⟩, rfl, rfl, rfl⟩
  | some y =>
    rw [hx] at h
    obtain ⟨nd, l'⟩ := y
    obtain ⟨S', cap', A, c, rfl, hsc, hat, hr, _, _⟩ := h
    refine ⟨⟨M, nd.space, nd.name, A, nd.attrs.length, c, none, 0, 0, [], some ⟨S', 0, none⟩, l'.length, cap', true⟩, rfl, rfl, S', rfl, rfl, rfl, rfl, rfl, rfl, rfl, rfl, rfl, rfl, hsc, hat.imp id (fun h => by omega), ?_⟩
    exact hr.lt.mono (fun b hb => ⟨⟨by omega, hb.1.2⟩, hb.2, by omega, by omega, by show b ≠ M; omega⟩)
theorem xr_node {w : World} {T : Nat → Prop} {nd : XV} {A : Option Addr} {c : Nat} (hk : nd.kids = []) (ht : nd.text = []) (hr : RC w T A (cA nd.attrs)) : XR w T nd (.agg #[sV nd.space, sV nd.name, .slice A nd.attrs.length c, .slice none 0 0, .string ⟨#[]⟩]) := by
  obtain ⟨sp, nm, al, ks, tx⟩ := nd
  change ks = [] at hk
  change tx = [] at ht
  subst hk; subst ht
  exact XR.of (kA := none) (kc := 0) hr (fun h => absurd h (Nat.lt_irrefl _))
theorem xr_kids {w : World} {T : Nat → Prop} {nd : XV} {A kA : Option Addr} {c kc : Nat} {ks : List XV} (ht : nd.text = []) (hr : RC w T A (cA nd.attrs)) (hk : RN8 w T kA ks) : XR w T (nd.withKids ks) (.agg #[sV nd.space, sV nd.name, .slice A nd.attrs.length c, .slice kA ks.length kc, .string ⟨#[]⟩]) := by
  obtain ⟨sp, nm, al, ks0, tx⟩ := nd
  change tx = [] at ht
  subst ht
  exact XR.of hr hk
theorem RN8.off {F T : Nat → Prop} {w w' : World} {A : Option Addr} {ks : List XV} (h : RN8 w T A ks) (ho : Off F w w') (hF : ∀ b, T b → ¬ F b) : RN8 w' T A ks := fun h0 => by
  obtain ⟨b, off, e, ht, hb, hl⟩ := h h0
  exact ⟨b, off, e, ht, Nat.lt_of_lt_of_le hb ho.size, XRl.off ho hF ks b off (hF b ht) hl⟩
theorem RN8.mono {T T' : Nat → Prop} {w : World} {A : Option Addr} {ks : List XV} (h : RN8 w T A ks) (hT : ∀ b, T b → T' b) : RN8 w T' A ks := fun h0 => by
  obtain ⟨b, off, e, ht, hb, hl⟩ := h h0
  exact ⟨b, off, e, hT b ht, hb, XRl.mono hT ks b off hl⟩
theorem sc_ne {b S c : Nat} {l : XS} {T : TypeId} {cs : Array Value} {w : World} (hb : Blk b (.cells cs T (0, 0)) w) (h : ScR S c l w) (hT : T ≠ TBi) : b ≠ S := fun e => by
  obtain ⟨cur, hc, _⟩ := h
  subst e
  have := hb.symm.trans hc
  injection this with h1
  injection h1 with _ h2
  exact hT h2
theorem keep_in {R S S' n n' : Nat} {w a b : World} (hS : S < w.heap.size) (hat : S' = S ∨ w.heap.size ≤ S') (hRS : R ≠ S) (ho : Off (fun b => b = R ∨ b = S') a b) (hk : KeepS S' n' a b) (hn : n ≤ n') : KeepS S n a b := by
  rcases hat with h | h
  · subst h; exact hk.less hn
  · exact KeepS.off ho (fun e => by rcases e with e | e; exact hRS e.symm; omega)
section
variable {R S cap Z V d M : Nat} {l : XS} {s2 s3 : Bt} {tg : Array Value} {w W W' : World}
theorem SoB.below (h : SoB R S cap Z V d l s2 tg w M W) (hb : Below W.heap.size W W') : SoB R S cap Z V d l s2 tg w M W' :=
  ⟨h.rd.below hb, h.sc.off (Off.of_below hb) (fun h => h), h.ml.below hb, (Off.of_below hb).blk h.var (fun h => h), (Off.of_below hb).blk h.zero (fun h => h), h.off.thenB hb, h.keep.trans (KeepS.off (Off.of_below hb) (fun h => h)), h.newM, h.newZ, h.newV, h.mz, h.mv, h.zv⟩
theorem SoB.atM (h : SoB R S cap Z V d l s2 tg w M W) (N : Nat) (hN : W.heap.size ≤ N) (hw : w.heap.size ≤ W.heap.size) : SoB R S cap Z V d l s2 tg w N W :=
  ⟨h.rd, h.sc, h.ml, h.var, h.zero, h.off, h.keep, by omega, h.newZ, h.newV, by have := h.zero.lt; omega, by have := h.var.lt; omega, h.zv⟩
theorem SoB.scope (h : SoB R S cap Z V d l s2 tg w M W) (hR : 0 ≠ S) (hRS : R ≠ S) (hS : S < w.heap.size) (ho : Off (fun b => b = S) W W') (hk : KeepS S l.length W W') : SoB R S cap Z V d l s2 tg w M W' :=
  ⟨h.rd.off ho hRS, h.sc.keep hk, h.ml.off ho hR, ho.blk h.var (fun e => by have := h.newV; omega), ho.blk h.zero (fun e => by have := h.newZ; omega), h.off.then (ho.mono (fun b e => .inr e)), h.keep.trans hk, h.newM, h.newZ, h.newV, h.mz, h.mv, h.zv⟩
/-- A store into a variable of the call's own that is none of these. -/
theorem SoB.store (h : SoB R S cap Z V d l s2 tg w M W) (hR : R < w.heap.size) (hS : S < w.heap.size) (_hm : 0 < w.heap.size) (j : Nat) (x : Value) : SoB R S cap Z V d l s2 tg w M (W.setCell ⟨M, j, none⟩ x) := by
  have ho := off_set8 W M j x
  have h1 := h.newM
  exact ⟨h.rd.off ho (by omega), h.sc.off ho (by omega), h.ml.off ho (by omega), ho.blk h.var h.mv.symm, ho.blk h.zero h.mz.symm, h.off.new h1 j x, h.keep.trans (KeepS.off ho (by omega)), h.newM, h.newZ, h.newV, h.mz, h.mv, h.zv⟩
end
set_option maxRecDepth 100000 in
set_option maxHeartbeats 40000000 in
theorem element_some {N : Nat} (hE : ElemC N) {R S cap d : Nat} {l : XS} {s s2 : Bt} {nm : XN} {ms : List XM} {cl : Bool} {w : World} (hI : EIn R S cap d l s w) (hN : s.length ≤ N + 1) (ht : tagX s = some ((nm, ms, cl), s2)) :
    Calls Tryz.prog 53 #[.pointer (some ⟨R, 0, none⟩)] w (EOut R S cap d l w (elemX d l s)) := by
  have hp := tagX_parts ht
  have hB := below_alloc8 w ZN
  have HB := Lib.hid hB
  obtain ⟨Z, hZe⟩ : ∃ Z, w.heap.size = Z := ⟨_, rfl⟩
  have hZ : Blk Z ZN (w.alloc ZN) := by have := Blk.new ZN w; rwa [hZe] at this
  have HZ := Lib.hid hZ
  have hRl := hI.rd.lt
  have hSl := hI.sc.lt
  have hMl := hI.ml.lt
  have HI := Lib.hid hI
  have HT := Lib.hid (tag_any (hI.rd.below hB) (hI.ml.below hB) hI.neR (by have := hI.short; omega))
  have HX : Hid (elemX d l s = match startX l nm ms with
        | none => .error 70
        | some (v, sc') => if d = 24 then .error 71 else if cl = true then .ok (v, s2) else
          match kidsX (d + 1) sc' s2 [] [] with
          | .error e => .error e
          | .ok (ks, s3) => match endX nm s3 with
            | none => .error 70
            | some s4 => .ok (v.withKids ks, s4)) := Lib.hid (by rw [elem_tag, ht])
  rw [ht] at HT
  unfold TOut at HT
  simp only at HT
  have HS := Lib.hid (fun (W : World) (A : Option Addr) (c : Nat) (T : Nat → Prop) (hs : ScR S cap l W) (hr : RC W T A (cM ms)) (hT : ∀ b, T b → b ≠ S) => selem_any (c := c) (cl := cl) (nm := nm) hs (by have := hI.len; omega) (by have := hI.short; omega) hr hT (fun m hm => by have := hp.2.2.1 m hm; have := hI.short; exact ⟨by omega, by omega⟩) hI.small (fun m hm => by have := hp.2.2.1 m hm; have := hI.short; omega))
  have HP := Lib.hid hp
  have HE := Lib.hid hE
  have HNN := Lib.hid hN
  obtain ⟨nL, hnL⟩ : ∃ n, l.length = n := ⟨_, rfl⟩
  obtain ⟨nM, hnM⟩ : ∃ n, ms.length = n := ⟨_, rfl⟩
  have HNL := Lib.hid hnL
  have HNM := Lib.hid hnM
  have HZE := Lib.hid hZe
  clear ht hI hB hZ hp hE hN
  go_enter Tryz.func53, Tryz.ntmps53
  go_wp2_with (go_at_call 80; (with_reducible refine HT.out.mono ?_); rintro e w1 ⟨o1, r1, tA, tc, rfl, hrc⟩; have HO1 := Lib.hid o1; have HR1 := Lib.hid r1; have HRC := Lib.hid hrc; clear o1 r1 hrc)
  obtain ⟨V, hV⟩ : ∃ V, w1.heap.size = V := ⟨_, rfl⟩
  have hB1 := below_alloc8 w1 (.cells #[sV nm.1, sV nm.2, .slice tA nM tc, .bool cl] TTg (0, 0))
  have hsz0 : w.heap.size < w1.heap.size := by have h1 := HO1.out.size; have h2 := HZ.out.lt; have h3 := HB.out.size; have h4 := HZE.out; omega
  have hB2 : SoB R S cap Z V d l s2 #[sV nm.1, sV nm.2, .slice tA nM tc, .bool cl] w (V + 1) (w1.alloc (.cells #[sV nm.1, sV nm.2, .slice tA nM tc, .bool cl] TTg (0, 0))) := by
    have o0 : Off (fun b => b = R) w w1 := (Off.ofB HB.out).then HO1.out
    refine ⟨HR1.out.below hB1, (HI.out.sc.off o0 (fun e => HI.out.ne e.symm)).off (Off.of_below hB1) (fun h => h), (HI.out.ml.off o0 HI.out.neR).below hB1, ?_, (HO1.out.blk HZ.out (fun e => by have := HZE.out; omega)).alloc8, (o0.mono (fun b e => .inl e)).thenB hB1, (KeepS.off o0 (fun e => HI.out.ne e.symm)).trans (KeepS.off (Off.of_below hB1) (fun h => h)), by omega, by have := HZE.out; omega, by omega, by have := HZE.out; omega, by omega, by have := HZE.out; omega⟩
    have := Blk.new (.cells #[sV nm.1, sV nm.2, .slice tA nM tc, .bool cl] TTg (0, 0)) w1
    rwa [hV] at this
  have hRC2 := (HRC.out.below hB1 : RC (w1.alloc (.cells #[sV nm.1, sV nm.2, .slice tA nM tc, .bool cl] TTg (0, 0))) _ tA (cM ms))
  have hsz2 : (w1.alloc (.cells #[sV nm.1, sV nm.2, .slice tA nM tc, .bool cl] TTg (0, 0))).heap.size = V + 1 := by simp [hV]
  clear hB1 HR1 HO1 HRC
  rw [hV] at hsz0 ⊢
  generalize w1.alloc (.cells #[sV nm.1, sV nm.2, .slice tA nM tc, .bool cl] TTg (0, 0)) = w2 at *
  clear hV w1
  have HTa : Hid (∀ b, (w.alloc ZN).heap.size ≤ b → b ≠ S) := Lib.hid (fun b hb e => by have := HB.out.size; omega)
  have HA : Hid (∀ M W, SoB R S cap Z V d l s2 #[sV nm.1, sV nm.2, .slice tA nM tc, .bool cl] w M W → (W.cell? ⟨R, 2, none⟩ = some (ScV S nL cap)) ∧ (W.cell? ⟨V, 0, none⟩ = some (sV nm.1) ∧ W.cell? ⟨V, 1, none⟩ = some (sV nm.2) ∧ W.cell? ⟨V, 2, none⟩ = some (.slice tA nM tc) ∧ W.cell? ⟨V, 3, none⟩ = some (.bool cl))) := Lib.hid (fun M W hW => ⟨by rw [hW.rd.c2, HNL.out], hW.var.cell 0, hW.var.cell 1, hW.var.cell 2, hW.var.cell 3⟩)
  refine wp_region_held_drew (S := fun W => (W.cell? ⟨R, 2, none⟩ = some (ScV S nL cap)) ∧ (W.cell? ⟨V, 0, none⟩ = some (sV nm.1) ∧ W.cell? ⟨V, 1, none⟩ = some (sV nm.2) ∧ W.cell? ⟨V, 2, none⟩ = some (.slice tA nM tc) ∧ W.cell? ⟨V, 3, none⟩ = some (.bool cl))) (by kernel_rfl) (HA.out _ _ (hB2.below (Below.drew (Below.refl _ _)))) (fun hHeld => ?_)
  have B0 := hB2.below (Below.drew (Below.refl _ w2))
  have C0 := (hRC2.below (Below.drew (Below.refl _ w2)) : RC w2.drew _ tA (cM ms))
  have s0 : w2.drew.heap.size = V + 1 := hsz2
  clear hB2 hRC2 hsz2
  generalize w2.drew = w0 at *
  clear w2
  refine wpAnyH_take (i := 0) (v := .pointer (some ⟨R, 0, none⟩)) rfl (by kernel_rfl) (by kernel_rfl) (by kernel_rfl) (fun _ _ _ h => h) (Or.inl ⟨by rfl, by intro w hSw; (try dsimp only at hSw); go_simp⟩) hHeld ?_
  change wpAnyH _ _ _ _ _ _ _ (Act.put _ (some 19) _) _
  try simp only [Act.put, List.setIfInBounds_toArray, List.set_cons_zero, List.set_cons_succ]
  refine wpAnyH_take (i := 1) (v := .pointer (some ⟨R, 0, none⟩)) rfl (by kernel_rfl) (by kernel_rfl) (by kernel_rfl) (fun _ _ _ h => h) (Or.inl ⟨by rfl, by intro w hSw; (try dsimp only at hSw); go_simp⟩) hHeld ?_
  change wpAnyH _ _ _ _ _ _ _ (Act.put _ (some 20) _) _
  try simp only [Act.put, List.setIfInBounds_toArray, List.set_cons_zero, List.set_cons_succ]
  refine wpAnyH_take (i := 2) (v := .pointer (some ⟨R, 2, none⟩)) rfl (by kernel_rfl) (by kernel_rfl) (by kernel_rfl) (fun _ _ _ h => h) (Or.inl ⟨by rfl, by intro w hSw; (try dsimp only at hSw); go_simp⟩) hHeld ?_
  change wpAnyH _ _ _ _ _ _ _ (Act.put _ (some 21) _) _
  try simp only [Act.put, List.setIfInBounds_toArray, List.set_cons_zero, List.set_cons_succ]
  refine wpAnyH_take (i := 3) (v := ScV S nL cap) rfl (by kernel_rfl) (by kernel_rfl) (by kernel_rfl) (fun _ _ _ h => h) (Or.inl ⟨by rfl, by intro w hSw; (try dsimp only at hSw); go_simp⟩) hHeld ?_
  change wpAnyH _ _ _ _ _ _ _ (Act.put _ (some 22) _) _
  try simp only [Act.put, List.setIfInBounds_toArray, List.set_cons_zero, List.set_cons_succ]
  refine wpAnyH_take (i := 4) (v := .agg #[sV nm.1, sV nm.2, .slice tA nM tc, .bool cl]) rfl (by kernel_rfl) (by kernel_rfl) (by kernel_rfl) (fun _ _ _ h => h) (Or.inl ⟨by rfl, by intro w hSw; (try dsimp only at hSw); go_simp⟩) hHeld ?_
  change wpAnyH _ _ _ _ _ _ _ (Act.put _ (some 23) _) _
  try simp only [Act.put, List.setIfInBounds_toArray, List.set_cons_zero, List.set_cons_succ]
  refine orders_meetP (α := P5) (f := 3) (l := #[true, true, true, true, true, true, true, true, true, true, true, false, false, false]) (fun p => { tmps := #[.pointer (some ⟨R, 0, none⟩), undef, .pointer (some ⟨Z, 0, none⟩), .int .i64 0, .pointer (some ⟨V, 0, none⟩), .bool true, .pointer (some ⟨p.M, 0, none⟩), undef, undef, undef, .tuple #[.agg #[sV nm.1, sV nm.2, .slice tA nM tc, .bool cl], .bool true], .pointer (some ⟨R, 0, none⟩), .tuple #[.agg #[sV nm.1, sV nm.2, .slice tA nM tc, .bool cl], .bool true], .agg #[sV nm.1, sV nm.2, .slice tA nM tc, .bool cl], .bool true, .bool true, .bool false, undef, .tuple #[.agg #[sV p.x0, sV p.x1, .slice p.A2 p.n2 p.c2, .slice p.A3 p.n3 p.c3, sV p.x4], .slice p.A p.n p.c, .bool p.b], .pointer (some ⟨R, 0, none⟩), .pointer (some ⟨R, 0, none⟩), .pointer (some ⟨R, 2, none⟩), ScV S nL cap, .agg #[sV nm.1, sV nm.2, .slice tA nM tc, .bool cl], .tuple #[.agg #[sV p.x0, sV p.x1, .slice p.A2 p.n2 p.c2, .slice p.A3 p.n3 p.c3, sV p.x4], .slice p.A p.n p.c, .bool p.b], .agg #[sV p.x0, sV p.x1, .slice p.A2 p.n2 p.c2, .slice p.A3 p.n3 p.c3, sV p.x4], .slice p.A p.n p.c, .bool p.b, undef, undef, undef, undef, undef, undef, undef, undef, undef, undef, undef, undef, undef, undef, undef, undef, undef, undef, undef, undef, undef, undef, undef, undef, undef, undef, undef, undef, undef, undef, undef, undef, undef, undef, undef, undef, undef, undef, undef, undef, undef, undef, undef, undef, undef, undef, undef, undef, undef, undef, undef, undef, undef, undef], defers := [] }) (fun p W => SoB R S cap Z V d l s2 #[sV nm.1, sV nm.2, .slice tA nM tc, .bool cl] w p.M W ∧ Blk p.M ZN W ∧ SoX w l nm ms S Z V p W) (fun p W hW => ?rest) (fun HM => ?here)
  case here =>
    refine wpAnyH_ready (rs := [5, 10]) (by kernel_rfl) (by simp) ?_
    refine AllReadyH.cons (o := { dst := some 24, op := .call { callee := .value (.func 81), args := #[.tmp 22, .tmp 23], argTypes := _ }, type := _, pos := _, after := _, guard := none }) rfl (fun K hK => ?_) ?_
    · -- the call first
      go_simp
      have hcall := HS.out w0 tA tc _ B0.sc C0 HTa.out
      rw [HNL.out, HNM.out] at hcall
      (with_reducible refine hcall.mono ?_)
      intro e w3 hso
      clear hcall
      have hso2 := hso
      obtain ⟨o3, k3, _⟩ := hso2
      obtain ⟨p, hpM, rfl, hx⟩ := so_form (w := w) (Z := Z) (V := V) (M := w3.heap.size) (by omega) B0.zero.lt B0.var.lt (.inr (Nat.le_refl _)) hso
      have B3 := (B0.scope HI.out.neS HI.out.ne hSl o3 k3).atM w3.heap.size (Nat.le_refl _) (by have := o3.size; omega)
      clear hso o3 k3
      refine hK.out _ _ (HA.out _ _ B3) (fun hHeld => ?_)
      clear hK K
      try simp only [Act.put, List.setIfInBounds_toArray, List.set_cons_zero, List.set_cons_succ]
      refine wpAnyH_take (i := 6) (v := .tuple #[.agg #[sV p.x0, sV p.x1, .slice p.A2 p.n2 p.c2, .slice p.A3 p.n3 p.c3, sV p.x4], .slice p.A p.n p.c, .bool p.b]) rfl (by kernel_rfl) (by kernel_rfl) (by kernel_rfl) (fun _ _ _ h => h) (Or.inl ⟨by rfl, by intro w hSw; (try dsimp only at hSw); go_simp⟩) hHeld ?_
      change wpAnyH _ _ _ _ _ _ _ (Act.put _ (some 18) _) _
      try simp only [Act.put, List.setIfInBounds_toArray, List.set_cons_zero, List.set_cons_succ]
      refine wpAnyH_take (i := 7) (v := .agg #[sV p.x0, sV p.x1, .slice p.A2 p.n2 p.c2, .slice p.A3 p.n3 p.c3, sV p.x4]) rfl (by kernel_rfl) (by kernel_rfl) (by kernel_rfl) (fun _ _ _ h => h) (Or.inl ⟨by rfl, by intro w hSw; (try dsimp only at hSw); go_simp⟩) hHeld ?_
      change wpAnyH _ _ _ _ _ _ _ (Act.put _ (some 25) _) _
      try simp only [Act.put, List.setIfInBounds_toArray, List.set_cons_zero, List.set_cons_succ]
      refine wpAnyH_take (i := 8) (v := .slice p.A p.n p.c) rfl (by kernel_rfl) (by kernel_rfl) (by kernel_rfl) (fun _ _ _ h => h) (Or.inl ⟨by rfl, by intro w hSw; (try dsimp only at hSw); go_simp⟩) hHeld ?_
      change wpAnyH _ _ _ _ _ _ _ (Act.put _ (some 26) _) _
      try simp only [Act.put, List.setIfInBounds_toArray, List.set_cons_zero, List.set_cons_succ]
      refine wpAnyH_take (i := 9) (v := .bool p.b) rfl (by kernel_rfl) (by kernel_rfl) (by kernel_rfl) (fun _ _ _ h => h) (Or.inl ⟨by rfl, by intro w hSw; (try dsimp only at hSw); go_simp⟩) hHeld ?_
      change wpAnyH _ _ _ _ _ _ _ (Act.put _ (some 27) _) _
      try simp only [Act.put, List.setIfInBounds_toArray, List.set_cons_zero, List.set_cons_succ]
      refine wpAnyH_ready (rs := [10]) (by kernel_rfl) (by simp) ?_
      refine AllReadyH.cons (o := { dst := some 6, op := .alloc TNo, type := _, pos := _, after := _, guard := none }) rfl (fun K hK => ?_) AllReadyH.nil
      go_simp
      have B4 := B3.below (below_alloc8 w3 ZN)
      have Z4 := Blk.new ZN w3
      refine hK.out _ _ (HA.out _ _ B4) (fun hHeld => ?_)
      clear hK K
      try simp only [Act.put, List.setIfInBounds_toArray, List.set_cons_zero, List.set_cons_succ]
      rw [← hpM] at B4 Z4 ⊢
      refine HM p _ ⟨B4, Z4, ?_⟩
      exact hx.below (below_alloc8 w3 ZN)
    · -- the variable first
      refine AllReadyH.cons (o := { dst := some 6, op := .alloc TNo, type := _, pos := _, after := _, guard := none }) rfl (fun K hK => ?_) AllReadyH.nil
      go_simp
      have B3 := B0.below (below_alloc8 w0 ZN)
      have C3 := C0.below (below_alloc8 w0 ZN)
      have Z3 : Blk (V + 1) ZN (w0.alloc ZN) := by have := Blk.new ZN w0; rwa [s0] at this
      have s3 : (w0.alloc ZN).heap.size = V + 2 := by simp [s0]
      generalize w0.alloc ZN = w3 at *
      refine hK.out _ _ (HA.out _ _ B3) (fun hHeld => ?_)
      clear hK K
      try simp only [Act.put, List.setIfInBounds_toArray, List.set_cons_zero, List.set_cons_succ]
      refine wpAnyH_ready (rs := [5]) (by kernel_rfl) (by simp) ?_
      refine AllReadyH.cons (o := { dst := some 24, op := .call { callee := .value (.func 81), args := #[.tmp 22, .tmp 23], argTypes := _ }, type := _, pos := _, after := _, guard := none }) rfl (fun K hK => ?_) AllReadyH.nil
      go_simp
      have hcall := HS.out w3 tA tc _ B3.sc C3 HTa.out
      rw [HNL.out, HNM.out] at hcall
      (with_reducible refine hcall.mono ?_)
      intro e w4 hso
      clear hcall
      have hso2 := hso
      obtain ⟨o4, k4, _⟩ := hso2
      obtain ⟨p, hpM, rfl, hx⟩ := so_form (w := w) (Z := Z) (V := V) (M := V + 1) (by omega) B3.zero.lt B3.var.lt (.inl (by omega)) hso
      have B4 := B3.scope HI.out.neS HI.out.ne hSl o4 k4
      have Z4 := o4.blk Z3 (fun e => by omega)
      clear hso o4 k4
      refine hK.out _ _ (HA.out _ _ B4) (fun hHeld => ?_)
      clear hK K
      try simp only [Act.put, List.setIfInBounds_toArray, List.set_cons_zero, List.set_cons_succ]
      refine wpAnyH_take (i := 6) (v := .tuple #[.agg #[sV p.x0, sV p.x1, .slice p.A2 p.n2 p.c2, .slice p.A3 p.n3 p.c3, sV p.x4], .slice p.A p.n p.c, .bool p.b]) rfl (by kernel_rfl) (by kernel_rfl) (by kernel_rfl) (fun _ _ _ h => h) (Or.inl ⟨by rfl, by intro w hSw; (try dsimp only at hSw); go_simp⟩) hHeld ?_
      change wpAnyH _ _ _ _ _ _ _ (Act.put _ (some 18) _) _
      try simp only [Act.put, List.setIfInBounds_toArray, List.set_cons_zero, List.set_cons_succ]
      refine wpAnyH_take (i := 7) (v := .agg #[sV p.x0, sV p.x1, .slice p.A2 p.n2 p.c2, .slice p.A3 p.n3 p.c3, sV p.x4]) rfl (by kernel_rfl) (by kernel_rfl) (by kernel_rfl) (fun _ _ _ h => h) (Or.inl ⟨by rfl, by intro w hSw; (try dsimp only at hSw); go_simp⟩) hHeld ?_
      change wpAnyH _ _ _ _ _ _ _ (Act.put _ (some 25) _) _
      try simp only [Act.put, List.setIfInBounds_toArray, List.set_cons_zero, List.set_cons_succ]
      refine wpAnyH_take (i := 8) (v := .slice p.A p.n p.c) rfl (by kernel_rfl) (by kernel_rfl) (by kernel_rfl) (fun _ _ _ h => h) (Or.inl ⟨by rfl, by intro w hSw; (try dsimp only at hSw); go_simp⟩) hHeld ?_
      change wpAnyH _ _ _ _ _ _ _ (Act.put _ (some 26) _) _
      try simp only [Act.put, List.setIfInBounds_toArray, List.set_cons_zero, List.set_cons_succ]
      refine wpAnyH_take (i := 9) (v := .bool p.b) rfl (by kernel_rfl) (by kernel_rfl) (by kernel_rfl) (fun _ _ _ h => h) (Or.inl ⟨by rfl, by intro w hSw; (try dsimp only at hSw); go_simp⟩) hHeld ?_
      change wpAnyH _ _ _ _ _ _ _ (Act.put _ (some 27) _) _
      try simp only [Act.put, List.setIfInBounds_toArray, List.set_cons_zero, List.set_cons_succ]
      rw [← hpM] at B4 Z4 ⊢
      exact HM p _ ⟨B4, Z4, hx⟩
  case rest =>
    obtain ⟨B1, Z1, hx⟩ := hW
    clear B0 C0 s0 hHeld HTa HB HZ HT HS w0
    obtain ⟨M, x0, x1, A2, n2, c2, A3, n3, c3, x4, A, n, c, b⟩ := p
    simp only at B1 Z1 hx ⊢
    have q0 := Z1.cell 0
    have q1 := Z1.cell 1
    have q2 := Z1.cell 2
    have q3 := Z1.cell 3
    have q4 := Z1.cell 4
    have f0 := Z1.free 0
    have f1 := Z1.free 1
    have f2 := Z1.free 2
    have f3 := Z1.free 3
    have f4 := Z1.free 4
    refine wpAnyH_ready (rs := [11]) (by kernel_rfl) (by simp) ?_
    refine AllReadyH.cons (o := { dst := none, op := .store TNo (.tmp 6) (.tmp 25), type := _, pos := _, after := _, guard := none }) rfl (fun K hK => ?_) AllReadyH.nil
    go_simp
    have N2 := five_set (a := sV x0) (b := sV x1) (c := .slice A2 n2 c2) (d := .slice A3 n3 c3) (e := sV x4) Z1
    have B2 := ((((B1.store hRl hSl hMl 0 (sV x0)).store hRl hSl hMl 1 (sV x1)).store hRl hSl hMl 2 (.slice A2 n2 c2)).store hRl hSl hMl 3 (.slice A3 n3 c3)).store hRl hSl hMl 4 (sV x4)
    have o2 := ((((off_set8 W M 0 (sV x0)).then (off_set8 _ M 1 (sV x1))).then (off_set8 _ M 2 (.slice A2 n2 c2))).then (off_set8 _ M 3 (.slice A3 n3 c3))).then (off_set8 _ M 4 (sV x4))
    have hx2 := hx.off o2 (fun b hb => .inl hb) B1.newM (.inl Z1) hSl
    clear q0 q1 q2 q3 q4 f0 f1 f2 f3 f4 o2 Z1 hx B1
    refine hK.out _ _ (HA.out _ _ B2) (fun hHeld => ?_)
    clear hK K
    try simp only [List.setIfInBounds_toArray, List.set_cons_zero, List.set_cons_succ]
    refine wpAnyH_take (i := 12) (v := .slice A n c) rfl (by kernel_rfl) (by kernel_rfl) (by kernel_rfl) (fun _ _ _ h => h) (Or.inl ⟨by rfl, by intro w hSw; (try dsimp only at hSw); go_simp⟩) hHeld ?_
    change wpAnyH _ _ _ _ _ _ _ (Act.put _ (some 7) _) _
    try simp only [Act.put, List.setIfInBounds_toArray, List.set_cons_zero, List.set_cons_succ]
    refine wpAnyH_take (i := 13) (v := .bool b) rfl (by kernel_rfl) (by kernel_rfl) (by kernel_rfl) (fun _ _ _ h => h) (Or.inl ⟨by rfl, by intro w hSw; (try dsimp only at hSw); go_simp⟩) hHeld ?_
    change wpAnyH _ _ _ _ _ _ _ (Act.put _ (some 5) _) _
    try simp only [Act.put, List.setIfInBounds_toArray, List.set_cons_zero, List.set_cons_succ]
    refine wpAnyH_done (by kernel_rfl) ?_ _
    have HB2 := Lib.hid B2
    have HN2 := Lib.hid N2
    have hx3 := hx2
    unfold SoX at hx3
    clear hx2 B2 N2 hHeld HA
    generalize ((((W.setCell ⟨M, 0, none⟩ (sV x0)).setCell ⟨M, 1, none⟩ (sV x1)).setCell ⟨M, 2, none⟩ (.slice A2 n2 c2)).setCell ⟨M, 3, none⟩ (.slice A3 n3 c3)).setCell ⟨M, 4, none⟩ (sV x4) = w5 at *
    have hMw := HB2.out.newM
    have hZw := HB2.out.newZ
    have hMZ := HB2.out.mz
    have hMV := HB2.out.mv
    have hZV := HB2.out.zv
    have hVw := HB2.out.newV
    clear W
    cases hsx : startX l nm ms with
    | none =>
      rw [hsx] at hx3
      simp only at hx3
      subst hx3
      have HO : Hid (elemX d l s = .error 70) := Lib.hid (by rw [HX.out, hsx])
      clear HX hsx
      have z0 := HB2.out.zero.cell 0
      have z1 := HB2.out.zero.cell 1
      have z2 := HB2.out.zero.cell 2
      have z3 := HB2.out.zero.cell 3
      have z4 := HB2.out.zero.cell 4
      have zf0 := HB2.out.zero.free 0
      have zf1 := HB2.out.zero.free 1
      have zf2 := HB2.out.zero.free 2
      have zf3 := HB2.out.zero.free 3
      have zf4 := HB2.out.zero.free 4
      have zl := HB2.out.zero.lt
      go_wp2
      have hE := (five_set (a := .string ⟨#[]⟩) (b := .string ⟨#[]⟩) (c := .slice none 0 0) (d := .slice none 0 0) (e := .string ⟨#[]⟩) HB2.out.zero)
      have d0 := hE.cell 0
      have d1 := hE.cell 1
      have d2 := hE.cell 2
      have d3 := hE.cell 3
      have d4 := hE.cell 4
      refine bodyPost_ret (v := .tuple #[zNV, .int .i64 70]) ?_ rfl ?_
      · simp [results, Tryz.results53, go_sem, d0, d1, d2, d3, d4]
      exact EOut.bad HO.out (by decide) (((((HB2.out.off.new hZw _ _).new hZw _ _).new hZw _ _).new hZw _ _).new hZw _ _)
    | some y =>
      obtain ⟨nd, l2⟩ := y
      rw [hsx] at hx3
      obtain ⟨S2, e1, e2, e3, e4, e5, e6, e7, e8, e9, e10, hsc, hat, hrc⟩ := hx3
      simp only at e1 e2 e3 e4 e5 e6 e7 e8 e9 e10 hsc hrc
      have HS2 := Lib.hid (start_scope hsx)
      have HX2 : Hid (elemX d l s = if d = 24 then .error 71 else if cl = true then .ok (nd, s2) else
            match kidsX (d + 1) l2 s2 [] [] with
            | .error e => .error e
            | .ok (ks, s3) => match endX nm s3 with
              | none => .error 70
              | some s4 => .ok (nd.withKids ks, s4)) := Lib.hid (by rw [HX.out, hsx])
      subst e10; subst e1; subst e2; subst e4; subst e5; subst e6; subst e7; subst e8
      have HE3 := Lib.hid e3
      have HE9 := Lib.hid e9
      have HSC := Lib.hid hsc
      have HRC := Lib.hid hrc
      have hat2 := hat
      clear HX hsx e3 e9 hsc hrc
      by_cases hd : d = 24
      · subst hd
        have HO : Hid (elemX 24 l s = .error 71) := Lib.hid (by rw [HX2.out, if_pos rfl])
        clear HX2
        have r1 := HB2.out.rd.c1
        have z0 := HB2.out.zero.cell 0
        have z1 := HB2.out.zero.cell 1
        have z2 := HB2.out.zero.cell 2
        have z3 := HB2.out.zero.cell 3
        have z4 := HB2.out.zero.cell 4
        have zf0 := HB2.out.zero.free 0
        have zf1 := HB2.out.zero.free 1
        have zf2 := HB2.out.zero.free 2
        have zf3 := HB2.out.zero.free 3
        have zf4 := HB2.out.zero.free 4
        have zl := HB2.out.zero.lt
        go_wp2
        have hE := (five_set (a := .string ⟨#[]⟩) (b := .string ⟨#[]⟩) (c := .slice none 0 0) (d := .slice none 0 0) (e := .string ⟨#[]⟩) HB2.out.zero)
        have d0 := hE.cell 0
        have d1 := hE.cell 1
        have d2 := hE.cell 2
        have d3 := hE.cell 3
        have d4 := hE.cell 4
        refine bodyPost_ret (v := .tuple #[zNV, .int .i64 71]) ?_ rfl ?_
        · simp [results, Tryz.results53, go_sem, d0, d1, d2, d3, d4]
        exact EOut.bad HO.out (by decide) (((((HB2.out.off.new hZw _ _).new hZw _ _).new hZw _ _).new hZw _ _).new hZw _ _)
      · have hd1 : ¬ ((d : Int) = 24) := by omega
        have hd2 : ((d : Int) == 24) = false := by rw [beq_eq_false_iff_ne]; omega
        cases cl with
        | true =>
          have HO : Hid (elemX d l s = .ok (nd, s2)) := Lib.hid (by rw [HX2.out, if_neg hd, if_pos rfl])
          clear HX2
          have r1 := HB2.out.rd.c1
          have v3 : w5.cell? ⟨V, 3, none⟩ = some (.bool true) := HB2.out.var.cell 3
          have z0 := HB2.out.zero.cell 0
          have z1 := HB2.out.zero.cell 1
          have z2 := HB2.out.zero.cell 2
          have z3 := HB2.out.zero.cell 3
          have z4 := HB2.out.zero.cell 4
          have zf0 := HB2.out.zero.free 0
          have zf1 := HB2.out.zero.free 1
          have zf2 := HB2.out.zero.free 2
          have zf3 := HB2.out.zero.free 3
          have zf4 := HB2.out.zero.free 4
          have zl := HB2.out.zero.lt
          have m0 := HN2.out.cell 0
          have m1 := HN2.out.cell 1
          have m2 := HN2.out.cell 2
          have m3 := HN2.out.cell 3
          have m4 := HN2.out.cell 4
          have mf0 := HN2.out.free 0
          have mf1 := HN2.out.free 1
          have mf2 := HN2.out.free 2
          have mf3 := HN2.out.free 3
          have mf4 := HN2.out.free 4
          have ml := HN2.out.lt
          go_wp2
          have hE := five_set (a := sV nd.space) (b := sV nd.name) (c := .slice A2 n2 c2) (d := .slice none 0 0) (e := sV []) HB2.out.zero
          have d0 := hE.cell 0
          have d1 := hE.cell 1
          have d2 := hE.cell 2
          have d3 := hE.cell 3
          have d4 := hE.cell 4
          refine bodyPost_ret (v := .tuple #[.agg #[sV nd.space, sV nd.name, .slice A2 n2 c2, .slice none 0 0, sV []], .int .i64 0]) ?_ rfl ?_
          · simp [results, Tryz.results53, go_sem, d0, d1, d2, d3, d4]
          have oz := ((((off_set8 w5 Z 0 (sV nd.space)).then (off_set8 _ Z 1 (sV nd.name))).then (off_set8 _ Z 2 (.slice A2 n2 c2))).then (off_set8 _ Z 3 (.slice none 0 0))).then (off_set8 _ Z 4 (sV []))
          have e3 := HE3.out
          subst e3
          refine ⟨(((((HB2.out.off.new hZw _ _).new hZw _ _).new hZw _ _).new hZw _ _).new hZw _ _), ?_⟩
          rw [HO.out]
          refine ⟨HB2.out.rd.off oz (by omega), HB2.out.keep.trans (KeepS.off oz (by omega)), _, rfl, ?_⟩
          refine xr_node HS2.out.2.1 HS2.out.2.2 ?_
          exact ((HRC.out.off oz (fun b hb e => hb.2.2.1 e)).lt.mono (fun b hb => ⟨hb.1.1.1, hb.2⟩))
        | false =>
          have HX3 : Hid (elemX d l s = match kidsX (d + 1) l2 s2 [] [] with
                | .error e => .error e
                | .ok (ks, s3) => match endX nm s3 with
                  | none => .error 70
                  | some s4 => .ok (nd.withKids ks, s4)) := Lib.hid (by rw [HX2.out, if_neg hd, if_neg (by decide)])
          clear HX2
          have hRS2 : R ≠ S2 := by rcases hat with h | h; rw [h]; exact HI.out.ne; omega
          have hmS2 : 0 ≠ S2 := by rcases hat with h | h; rw [h]; exact HI.out.neS; omega
          have hdl := HI.out.deep
          have r1 := HB2.out.rd.c1
          have r2 : w5.cell? ⟨R, 2, none⟩ = some (ScV S nL cap) := by rw [HB2.out.rd.c2, HNL.out]
          have rf1 := HB2.out.rd.free 1
          have rf2 := HB2.out.rd.free 2
          have v3 : w5.cell? ⟨V, 3, none⟩ = some (.bool false) := HB2.out.var.cell 3
          have o6 : Off (fun b => b = R) w5 ((w5.setCell ⟨R, 2, none⟩ (ScV S2 n c)).setCell ⟨R, 1, none⟩ (.int .i64 ((d : Int) + 1))) := (off_set8 _ _ _ _).then (off_set8 _ _ _ _)
          have hl2 : l2.length ≤ l.length + ms.length := by rw [HS2.out.1, List.length_append]; have := decls_len ms; omega
          have hE6 : EIn R S2 c (d + 1) l2 s2 ((w5.setCell ⟨R, 2, none⟩ (ScV S2 n c)).setCell ⟨R, 1, none⟩ (.int .i64 ((d : Int) + 1))) := by
            refine ⟨?_, HSC.out.off o6 (fun e => hRS2 e.symm), HB2.out.ml.off o6 HI.out.neR, HI.out.neR, hmS2, hRS2, ?_, ?_, ?_, by omega⟩
            · rw [← HE9.out]
              exact (HB2.out.rd.set2 (ScV S2 n c)).set1 (d + 1)
            · have := HP.out.2.2.2; have := HI.out.len; omega
            · have := HP.out.2.2.2; have := HI.out.short; omega
            · rw [HS2.out.1]
              intro q hq
              rcases List.mem_append.1 hq with hq | hq
              · exact HI.out.small q hq
              · obtain ⟨m, hm, he⟩ := decl_val hq
                have := HP.out.2.2.1 m hm
                have := HI.out.short
                rw [he]
                omega
          have HKc := Lib.hid (content_any HE.out hE6 (by have := HP.out.2.2.2; have := HNN.out; omega))
          have hZS2 : Z ≠ S2 := sc_ne HB2.out.zero HSC.out (by decide)
          have hMS2 : M ≠ S2 := sc_ne HN2.out HSC.out (by decide)
          have hVS2 : V ≠ S2 := sc_ne HB2.out.var HSC.out (by decide)
          have HO6 := Lib.hid o6
          clear hE6 o6
          obtain ⟨w6, hw6⟩ : ∃ W, (w5.setCell ⟨R, 2, none⟩ (ScV S2 n c)).setCell ⟨R, 1, none⟩ (.int .i64 ((d : Int) + 1)) = W := ⟨_, rfl⟩
          rw [hw6] at HKc HO6
          unfold KOut at HKc
          have hd3 : ((d : Int) + 1) ≤ 30 := by omega
          have hd4 : (0 : Int) ≤ (d : Int) := by omega
          cases hkk : kidsX (d + 1) l2 s2 [] [] with
          | error k =>
            have HO : Hid (elemX d l s = .error k) := Lib.hid (by rw [HX3.out, hkk])
            rw [hkk] at HKc
            simp only at HKc
            clear HX3 hkk
            go_wp2_with (go_at_call 82; (with_reducible refine HKc.out.mono ?_); rintro e w7 ⟨o7, hk7, rfl⟩; have z7 := o7.blk (HO6.out.blk HB2.out.zero (by omega)) (by omega); have m7 := o7.blk (HO6.out.blk HN2.out (by omega)) (by omega); have z0 := z7.cell 0; have z1 := z7.cell 1; have z2 := z7.cell 2; have z3 := z7.cell 3; have z4 := z7.cell 4; have zf0 := z7.free 0; have zf1 := z7.free 1; have zf2 := z7.free 2; have zf3 := z7.free 3; have zf4 := z7.free 4; have zl := z7.lt; have m3 := m7.cell 3; have mf3 := m7.free 3; have ml := m7.lt; have HZ7 := Lib.hid z7; have HO7 : Hid (Off (fun b => b = R ∨ b = S) w w7) := Lib.hid ((HB2.out.off.then (HO6.out.mono (fun b e => Or.inl e))).trans o7 (fun b e => e.elim (fun e => Or.inl (Or.inl e)) (fun e => hat2.elim (fun h => Or.inl (Or.inr (e.trans h))) (fun h => Or.inr (by omega))))); clear o7 z7 m7)
            have hE := (five_set (a := .string ⟨#[]⟩) (b := .string ⟨#[]⟩) (c := .slice none 0 0) (d := .slice none 0 0) (e := .string ⟨#[]⟩) ((off_set8 w7 M 3 (.slice none 0 0)).blk HZ7.out hMZ.symm))
            have d0 := hE.cell 0
            have d1 := hE.cell 1
            have d2 := hE.cell 2
            have d3 := hE.cell 3
            have d4 := hE.cell 4
            refine bodyPost_ret (v := .tuple #[zNV, .int .i64 k]) ?_ rfl ?_
            · simp [results, Tryz.results53, go_sem, d0, d1, d2, d3, d4]
            exact EOut.bad HO.out hk7 ((((((HO7.out.new hMw 3 _).new hZw _ _).new hZw _ _).new hZw _ _).new hZw _ _).new hZw _ _)
          | ok y =>
            obtain ⟨ks, s3⟩ := y
            have HX4 : Hid (elemX d l s = match endX nm s3 with
                    | none => .error 70
                    | some s4 => .ok (nd.withKids ks, s4)) := Lib.hid (by rw [HX3.out, hkk])
            rw [hkk] at HKc
            simp only at HKc
            clear HX3 hkk
            obtain ⟨nK, hnK⟩ : ∃ n, ks.length = n := ⟨_, rfl⟩
            rw [hnK] at HKc
            have HNK := Lib.hid hnK
            have HEnd := Lib.hid (fun W (hW : RS R s3 d (ScV S nL cap) W) => endOf_any hW nm tA nM tc false (by have := HP.out.1; have := HI.out.short; omega) (by have := HP.out.2.1; have := HI.out.short; omega))
            unfold RdO at HEnd
            have hRV : R ≠ V := by omega
            have hRM : R ≠ M := by omega
            have hRZ : R ≠ Z := by omega
            have hMR : M ≠ R := by omega
            have hVR : V ≠ R := by omega
            have hVM : V ≠ M := hMV.symm
            have hd5 : (d : Int) + 1 - 1 = (d : Int) := by omega
            clear hnK
            cases hen : endX nm s3 with
            | none =>
              have HO : Hid (elemX d l s = .error 70) := Lib.hid (by rw [HX4.out, hen])
              rw [hen] at HEnd
              simp only [Option.isSome_none] at HEnd
              clear HX4 hen
              go_wp2_with (first
                | (go_at_call 82; (with_reducible refine HKc.out.mono ?_); rintro e w7 ⟨o7, r7, k7, kA, kc, rfl, hrn⟩; have z7 := o7.blk (HO6.out.blk HB2.out.zero (by omega)) (by omega); have m7 := o7.blk (HO6.out.blk HN2.out (by omega)) (by omega); have v7 := o7.blk (HO6.out.blk HB2.out.var (by omega)) (by omega); have q1 : w7.cell? ⟨R, 1, none⟩ = some (.int .i64 ((d : Int) + 1)) := r7.c1; have q2 := r7.c2; have qf1 := r7.free 1; have qf2 := r7.free 2; have m3 := m7.cell 3; have mf3 := m7.free 3; have u0 := v7.cell 0; have u1 := v7.cell 1; have u2 := v7.cell 2; have u3 := v7.cell 3; have HZ7 := Lib.hid z7; have HM7 := Lib.hid m7; have HQ7 := Lib.hid (And.intro o7 (And.intro r7 (And.intro k7 hrn))); clear z7 m7 v7 o7 r7 k7 hrn)
                | (go_at_call 83; (with_reducible refine (HEnd.out _ (((HQ7.out.2.1.off (off_set8 _ M 3 _) hRM).set1 d).set2 _)).mono ?_); rintro e w9 ⟨rfl, _, o9⟩; have o79 : Off (fun b => b = M ∨ b = R) w7 w9 := ((((off_set8 w7 M 3 (.slice kA nK kc)).mono (fun _ e => Or.inl e)).then ((off_set8 _ R 1 (.int .i64 (d : Int))).mono (fun _ e => Or.inr e))).then ((off_set8 _ R 2 (ScV S nL cap)).mono (fun _ e => Or.inr e))).then (o9.mono (fun _ e => Or.inr e)); have z9 := o79.blk HZ7.out (fun e => e.elim (fun e => hMZ e.symm) (fun e => hRZ e.symm)); have HO9 : Hid (Off (fun b => b = R ∨ b = S) w w9) := Lib.hid (((HB2.out.off.then (HO6.out.mono (fun b e => Or.inl e))).trans HQ7.out.1 (fun b e => e.elim (fun e => Or.inl (Or.inl e)) (fun e => hat2.elim (fun h => Or.inl (Or.inr (e.trans h))) (fun h => Or.inr (by omega))))).trans o79 (fun b e => e.elim (fun e => Or.inr (by omega)) (fun e => Or.inl (Or.inl e)))); have HZ9 := Lib.hid z9; have HO79 := Lib.hid o79; have z0 := z9.cell 0; have z1 := z9.cell 1; have z2 := z9.cell 2; have z3 := z9.cell 3; have z4 := z9.cell 4; have zf0 := z9.free 0; have zf1 := z9.free 1; have zf2 := z9.free 2; have zf3 := z9.free 3; have zf4 := z9.free 4; have zl := z9.lt; clear o79 z9 o9))
              have hE := (five_set (a := .string ⟨#[]⟩) (b := .string ⟨#[]⟩) (c := .slice none 0 0) (d := .slice none 0 0) (e := .string ⟨#[]⟩) HZ9.out)
              have d0 := hE.cell 0
              have d1 := hE.cell 1
              have d2 := hE.cell 2
              have d3 := hE.cell 3
              have d4 := hE.cell 4
              refine bodyPost_ret (v := .tuple #[zNV, .int .i64 70]) ?_ rfl ?_
              · simp [results, Tryz.results53, go_sem, d0, d1, d2, d3, d4]
              exact EOut.bad HO.out (by decide) (((((HO9.out.new hZw _ _).new hZw _ _).new hZw _ _).new hZw _ _).new hZw _ _)
            | some s4 =>
              have HO : Hid (elemX d l s = .ok (nd.withKids ks, s4)) := Lib.hid (by rw [HX4.out, hen])
              rw [hen] at HEnd
              simp only [Option.isSome_some] at HEnd
              clear HX4 hen
              go_wp2_with (first
                | (go_at_call 82; (with_reducible refine HKc.out.mono ?_); rintro e w7 ⟨o7, r7, k7, kA, kc, rfl, hrn⟩; have z7 := o7.blk (HO6.out.blk HB2.out.zero (by omega)) (by omega); have m7 := o7.blk (HO6.out.blk HN2.out (by omega)) (by omega); have v7 := o7.blk (HO6.out.blk HB2.out.var (by omega)) (by omega); have q1 : w7.cell? ⟨R, 1, none⟩ = some (.int .i64 ((d : Int) + 1)) := r7.c1; have q2 := r7.c2; have qf1 := r7.free 1; have qf2 := r7.free 2; have m3 := m7.cell 3; have mf3 := m7.free 3; have u0 := v7.cell 0; have u1 := v7.cell 1; have u2 := v7.cell 2; have u3 := v7.cell 3; have HZ7 := Lib.hid z7; have HM7 := Lib.hid m7; have HQ7 := Lib.hid (And.intro o7 (And.intro r7 (And.intro k7 hrn))); clear z7 m7 v7 o7 r7 k7 hrn)
                | (go_at_call 83; (with_reducible refine (HEnd.out _ (((HQ7.out.2.1.off (off_set8 _ M 3 _) hRM).set1 d).set2 _)).mono ?_); rintro e w9 ⟨rfl, hr9, o9⟩; have r9 := hr9 s4 rfl; have m8 : Blk M (.cells #[sV nd.space, sV nd.name, .slice A2 n2 c2, .slice kA nK kc, sV []] TNo (0, 0)) (w7.setCell ⟨M, 3, none⟩ (.slice kA nK kc)) := (by have := HM7.out.set 3 (.slice kA nK kc); simpa using this); have m9 := o9.blk ((off_set8 _ R 2 (ScV S nL cap)).blk ((off_set8 _ R 1 (.int .i64 (d : Int))).blk m8 hMR) hMR) hMR; have o79 : Off (fun b => b = M ∨ b = R) w7 w9 := ((((off_set8 w7 M 3 (.slice kA nK kc)).mono (fun _ e => Or.inl e)).then ((off_set8 _ R 1 (.int .i64 (d : Int))).mono (fun _ e => Or.inr e))).then ((off_set8 _ R 2 (ScV S nL cap)).mono (fun _ e => Or.inr e))).then (o9.mono (fun _ e => Or.inr e)); have z9 := o79.blk HZ7.out (fun e => e.elim (fun e => hMZ e.symm) (fun e => hRZ e.symm)); have HO9 : Hid (Off (fun b => b = R ∨ b = S) w w9) := Lib.hid (((HB2.out.off.then (HO6.out.mono (fun b e => Or.inl e))).trans HQ7.out.1 (fun b e => e.elim (fun e => Or.inl (Or.inl e)) (fun e => hat2.elim (fun h => Or.inl (Or.inr (e.trans h))) (fun h => Or.inr (by omega))))).trans o79 (fun b e => e.elim (fun e => Or.inr (by omega)) (fun e => Or.inl (Or.inl e)))); have HZ9 := Lib.hid z9; have HO79 := Lib.hid o79; have z0 := z9.cell 0; have z1 := z9.cell 1; have z2 := z9.cell 2; have z3 := z9.cell 3; have z4 := z9.cell 4; have zf0 := z9.free 0; have zf1 := z9.free 1; have zf2 := z9.free 2; have zf3 := z9.free 3; have zf4 := z9.free 4; have zl := z9.lt; have m0 := m9.cell 0; have m1 := m9.cell 1; have m2 := m9.cell 2; have m3 := m9.cell 3; have m4 := m9.cell 4; have mf0 := m9.free 0; have mf1 := m9.free 1; have mf2 := m9.free 2; have mf3 := m9.free 3; have mf4 := m9.free 4; have ml := m9.lt; have HR9 := Lib.hid r9; clear o79 z9 o9 m8 m9 r9 hr9))
              have hE := five_set (a := sV nd.space) (b := sV nd.name) (c := .slice A2 n2 c2) (d := .slice kA nK kc) (e := sV []) HZ9.out
              have d0 := hE.cell 0
              have d1 := hE.cell 1
              have d2 := hE.cell 2
              have d3 := hE.cell 3
              have d4 := hE.cell 4
              refine bodyPost_ret (v := .tuple #[.agg #[sV nd.space, sV nd.name, .slice A2 n2 c2, .slice kA nK kc, sV []], .int .i64 0]) ?_ rfl ?_
              · simp [results, Tryz.results53, go_sem, d0, d1, d2, d3, d4]
              have oz := ((((off_set8 w9 Z 0 (sV nd.space)).then (off_set8 _ Z 1 (sV nd.name))).then (off_set8 _ Z 2 (.slice A2 n2 c2))).then (off_set8 _ Z 3 (.slice kA nK kc))).then (off_set8 _ Z 4 (sV []))
              have e3 := HE3.out
              subst e3
              have eK := HNK.out
              subst eK
              refine ⟨(((((HO9.out.new hZw _ _).new hZw _ _).new hZw _ _).new hZw _ _).new hZw _ _), ?_⟩
              rw [HO.out]
              obtain ⟨o7, r7, k7, hrn⟩ := HQ7.out
              have hk2 : l.length ≤ l2.length := by rw [HS2.out.1, List.length_append]; omega
              refine ⟨?_, (((HB2.out.keep.trans (KeepS.off HO6.out (fun e => HI.out.ne e.symm))).trans (keep_in hSl hat2 HI.out.ne o7 k7 hk2)).trans (KeepS.off HO79.out (fun e => e.elim (fun e => by omega) (fun e => HI.out.ne e.symm)))).trans (KeepS.off oz (by omega)), _, rfl, ?_⟩
              · have := HR9.out.off oz hRZ
                rw [← HNL.out] at this
                exact this
              · refine xr_kids HS2.out.2.2 ?_ ?_
                · have h1 := (((HRC.out.off HO6.out (fun b hb e => by omega)).off o7 (fun b hb e => e.elim (fun e => by omega) (fun e => hb.1.2 e))).off HO79.out (fun b hb e => e.elim (fun e => hb.2.2.2.2 e) (fun e => by omega))).off oz (fun b hb e => hb.2.2.1 e)
                  exact h1.lt.mono (fun b hb => ⟨hb.1.1.1, hb.2⟩)
                · have h6 : w5.heap.size ≤ w6.heap.size := HO6.out.size
                  have hl5 := HB2.out.zero.lt
                  have hl6 := HN2.out.lt
                  have h1 := (hrn.off HO79.out (fun b hb e => e.elim (fun e => by omega) (fun e => by omega))).off oz (fun b hb e => by omega)
                  have hs9 := Nat.le_trans HO79.out.size oz.size
                  exact h1.mono (fun b hb => ⟨by omega, Nat.lt_of_lt_of_le hb.2 hs9⟩)
theorem element_all : ∀ N : Nat, ElemC N
  | 0 => fun R S cap d l s w hN hI => by
    have hs : s = [] := List.eq_nil_of_length_eq_zero (by omega)
    exact element_none hI (by rw [hs]; rfl)
  | N + 1 => fun R S cap d l s w hN hI => by
    cases ht : tagX s with
    | none => exact element_none hI ht
    | some y =>
      obtain ⟨⟨nm, ms, cl⟩, s2⟩ := y
      exact element_some (element_all N) hI hN ht
theorem element_any {R S cap d : Nat} {l : XS} {s : Bt} {w : World} (hI : EIn R S cap d l s w) :
    Calls Tryz.prog 53 #[.pointer (some ⟨R, 0, none⟩)] w (EOut R S cap d l w (elemX d l s)) := element_all s.length R S cap d l s w (Nat.le_refl _) hI
end Go.Proofs.YtklcjimmbkpbdaaGreatDoor
