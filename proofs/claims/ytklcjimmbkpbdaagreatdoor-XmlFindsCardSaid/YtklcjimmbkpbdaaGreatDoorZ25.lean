/-
  Of the proofs of layer 8 (elements of XML): the parts XAk XAl. No conditions.
-/
import Derived.Test.YtklcjimmbkpbdaaGreatDoorZ24
import Derived.Deep.RegionLaw
import Derived.Deep.RegionHeld3
import Derived.Deep.MidRow
namespace Go.Proofs.YtklcjimmbkpbdaaGreatDoor
open Go.RowKit
open Go.Lib

theorem off_sets8 (b : Nat) : ∀ (vs : List Value) (o : Nat) (w : World), Off (fun k => k = b) w (w.setCells b o vs) := by
  intro vs
  induction vs with
  | nil => intro o w; exact Off.refl _ _
  | cons v vs ih =>
    intro o w
    exact (off_set8 w b o v).then (ih (o + 1) (w.setCell ⟨b, o, none⟩ v))
abbrev zN5 : List Value := [.string ⟨#[]⟩, .string ⟨#[]⟩, .slice none 0 0, .slice none 0 0, .string ⟨#[]⟩]
theorem Tryz.info8N : (Tryz.prog.info? TNo).map (fun i => (i.zero, i.size, i.bytes)) = some (some (.agg #[.string ⟨#[]⟩, .string ⟨#[]⟩, .slice none 0 0, .slice none 0 0, .string ⟨#[]⟩]), 5, 96) := by kernel_rfl
/-- Five cells of a row are there, and are written. -/
theorem own5_there {w : World} {B g cap n : Nat} {cs : List Value} (h : w.ownsRow B TNo 5 (.slice (some ⟨g, 0, none⟩) (n + 1) cap) (n + 1) cs) : w.there g (n * 5) 5 := fun j hj => by
  have hl : cs.length = (n + 1) * 5 := h.1
  refine ⟨?_, World.ownsRow.frozenAt h _⟩
  rw [World.ownsRow.cellAt h (n * 5 + j) (by omega), List.getElem?_eq_getElem (by omega)]
  rfl
theorem own5_set {w : World} {B g cap n : Nat} {cs : List Value} (hn : cs.length = n * 5) {z0 z1 z2 z3 z4 x0 x1 x2 x3 x4 : Value} (h : w.ownsRow B TNo 5 (.slice (some ⟨g, 0, none⟩) (n + 1) cap) (n + 1) (cs ++ [z0, z1, z2, z3, z4])) :
    (w.setCells g (n * 5) [x0, x1, x2, x3, x4]).ownsRow B TNo 5 (.slice (some ⟨g, 0, none⟩) (n + 1) cap) (n + 1) (cs ++ [x0, x1, x2, x3, x4]) := by
  have h0 := (World.ownsRow.stored h (n * 5) x0).1
  have h1 := (World.ownsRow.stored h0 (n * 5 + 1) x1).1
  have h2 := (World.ownsRow.stored h1 (n * 5 + 1 + 1) x2).1
  have h3 := (World.ownsRow.stored h2 (n * 5 + 1 + 1 + 1) x3).1
  have h4 := (World.ownsRow.stored h3 (n * 5 + 1 + 1 + 1 + 1) x4).1
  have e : (((((cs ++ [z0, z1, z2, z3, z4]).set (n * 5) x0).set (n * 5 + 1) x1).set (n * 5 + 1 + 1) x2).set (n * 5 + 1 + 1 + 1) x3).set (n * 5 + 1 + 1 + 1 + 1) x4 = cs ++ [x0, x1, x2, x3, x4] := by
    rw [← hn]
    rw [List.set_append_right _ _ (by omega), List.set_append_right _ _ (by omega), List.set_append_right _ _ (by omega), List.set_append_right _ _ (by omega), List.set_append_right _ _ (by omega)]
    congr 1
    rw [Nat.sub_self, show cs.length + 1 - cs.length = 1 by omega, show cs.length + 1 + 1 - cs.length = 2 by omega, show cs.length + 1 + 1 + 1 - cs.length = 3 by omega, show cs.length + 1 + 1 + 1 + 1 - cs.length = 4 by omega]
    rfl
  rw [e] at h4
  exact h4
theorem all5 {x0 x1 x2 x3 x4 : Value} (h0 : x0.oneCell' = true) (h1 : x1.oneCell' = true) (h2 : x2.oneCell' = true) (h3 : x3.oneCell' = true) (h4 : x4.oneCell' = true) : (#[x0, x1, x2, x3, x4] : Array Value).all (·.oneCell') = true := by
  rw [← Array.all_toList]
  show ([x0, x1, x2, x3, x4] : List Value).all _ = true
  simp only [List.all_cons, List.all_nil, h0, h1, h2, h3, h4, Bool.and_self]
section
variable {P : Program} {ops : Array Oper} {a : Act} {o : Oper} {K : Act → World → Prop} {Q : Exit → Act → World → Prop} {E : Prop}
theorem step_stS (hgd : o.guard = none) (t u : Nat) (ho : o.op = .store 25 (.tmp t) (.tmp u)) (hd : o.dst = none) (w : World) {b k : Nat} {v old : Value} (hx : a.eval (.tmp t) = .pointer (some ⟨b, k, none⟩)) (hy : a.eval (.tmp u) = v) (hc : w.cell? ⟨b, k, none⟩ = some old) (hf : w.frozen? ⟨b, k, none⟩ = false) (hs : ∃ A n c, v = .slice A n c)
    (h : K a (w.setCell ⟨b, k, none⟩ v)) : if Region.wanted o (yielded ops a.tmps) = true then Oper.wp Tryz.prog o a w K Q else E := by
  have hw : Region.wanted o (yielded ops a.tmps) = true := by simp [Region.wanted, hgd]
  rw [if_pos hw]
  obtain ⟨A, n, c, rfl⟩ := hs
  have e0 : (⟨b, k, none⟩ : Addr).add 0 = ⟨b, k, none⟩ := by simp [Addr.add]
  have hst := run_store Tryz.prog w ⟨b, k, none⟩ (.slice A n c) .plain rfl
  rw [hc] at hst
  simp only [hf] at hst
  have hT : (Go.sizeOf 25).run Tryz.prog w = .ok 1 w := by
    have h : (Tryz.prog.info? 25).map (fun i => i.size) = some 1 := by kernel_rfl
    cases hi : Tryz.prog.info? 25 with
    | none => rw [hi] at h; cases h
    | some i => rw [hi] at h; simp at h; simp [sizeOf, typeInfo, hi, h]
  have hr : (Instr.storeAt 25 (.pointer (some ⟨b, k, none⟩)) (.slice A n c)).run Tryz.prog w = .ok () (w.setCell ⟨b, k, none⟩ (.slice A n c)) := by
    have hcl : (Value.slice A n c).cells = #[.slice A n c] := rfl
    simp [Instr.storeAt, Instr.sureAddr, storeVar, hT, hcl, storeCells, e0, hst]
  unfold Oper.wp execOp
  simp only [ho, hx, hy, Sem.run_bind, Sem.run_pure, Result.andThen_ok, hr]
  show K (a.put o.dst _) _
  rw [hd]
  exact h
theorem step_st5 (hgd : o.guard = none) (t u : Nat) (ho : o.op = .store TNo (.tmp t) (.tmp u)) (hd : o.dst = none) (w : World) {b k : Nat} {x0 x1 x2 x3 x4 : Value} (hx : a.eval (.tmp t) = .pointer (some ⟨b, k, none⟩)) (hy : a.eval (.tmp u) = .agg #[x0, x1, x2, x3, x4]) (ht : w.there b k 5) (h1 : (#[x0, x1, x2, x3, x4] : Array Value).all (·.oneCell') = true)
    (h : K a (w.setCells b k [x0, x1, x2, x3, x4])) : if Region.wanted o (yielded ops a.tmps) = true then Oper.wp Tryz.prog o a w K Q else E := by
  have hw : Region.wanted o (yielded ops a.tmps) = true := by simp [Region.wanted, hgd]
  rw [if_pos hw]
  refine wp_store_mid TNo (.tmp t) (.tmp u) ho b k #[x0, x1, x2, x3, x4] hx hy ht (by kernel_rfl) h1 ?_
  rw [hd]
  exact h
theorem of_all5 {x0 x1 x2 x3 x4 : Value} (h : (#[x0, x1, x2, x3, x4] : Array Value).all (·.oneCell') = true) : ∀ u ∈ [x0, x1, x2, x3, x4], u.oneCell' = true := by
  rw [← Array.all_toList] at h
  exact List.all_eq_true.1 h
theorem step_ld5 (hgd : o.guard = none) (t : Nat) (ho : o.op = .load TNo (.tmp t)) (w : World) {b k : Nat} {x0 x1 x2 x3 x4 : Value} (hx : a.eval (.tmp t) = .pointer (some ⟨b, k, none⟩)) (hr : w.rangeAt b k [x0, x1, x2, x3, x4])
    (h : K (a.put o.dst (.agg #[x0, x1, x2, x3, x4])) w) : if Region.wanted o (yielded ops a.tmps) = true then Oper.wp Tryz.prog o a w K Q else E := by
  have hw : Region.wanted o (yielded ops a.tmps) = true := by simp [Region.wanted, hgd]
  rw [if_pos hw]
  unfold Oper.wp
  have run : (execOp a.eval o).run Tryz.prog w = .ok (.value (.agg #[x0, x1, x2, x3, x4])) w := by
    clear h hw
    unfold execOp
    rw [ho]
    generalize a.eval = ev at *
    have := run_loadAt_mid (P := Tryz.prog) w b k TNo [x0, x1, x2, x3, x4] _ hr Tryz.underlying27 rfl (by kernel_rfl)
    simp [hx, this]
  rw [run]
  exact h
theorem step_bs5 (hgd : o.guard = none) (t : Nat) (ho : o.op = .buildSlice 25 1 #[(0, .tmp t)]) (w : World) {x0 x1 x2 x3 x4 : Value} (hx : a.eval (.tmp t) = .agg #[x0, x1, x2, x3, x4])
    (h : K (a.put o.dst (.slice (some ⟨w.heap.size, 0, none⟩) 1 1)) (w.alloc (.cells #[x0, x1, x2, x3, x4] TNo (0, 0)))) : if Region.wanted o (yielded ops a.tmps) = true then Oper.wp Tryz.prog o a w K Q else E := by
  have hw : Region.wanted o (yielded ops a.tmps) = true := by simp [Region.wanted, hgd]
  rw [if_pos hw]
  unfold Oper.wp
  have run : (execOp a.eval o).run Tryz.prog w = .ok (.value (.slice (some ⟨w.heap.size, 0, none⟩) 1 1)) (w.alloc (.cells #[x0, x1, x2, x3, x4] TNo (0, 0))) := by
    clear h hw
    unfold execOp
    rw [ho]
    generalize a.eval = ev at *
    go_simp
  rw [run]
  exact h
/-- Where the orders of a region meet again. -/
theorem orders_meet {md : Region.Mode} {S : World → Prop} {f f0 : Nat} {l l0 : Array Bool} {a0 : Act} {w0 : World} (R : World → Prop) (h : ∀ W, R W → wpAnyH P md ops Q S f l a W)
    (k : (∀ W, R W → wpAnyH P md ops Q S f l a W) → wpAnyH P md ops Q S f0 l0 a0 w0) : wpAnyH P md ops Q S f0 l0 a0 w0 := k h
theorem orders_meetP {α : Type} {md : Region.Mode} {S : World → Prop} {f f0 : Nat} {l l0 : Array Bool} {a0 : Act} {w0 : World} (a : α → Act) (R : α → World → Prop) (h : ∀ p W, R p W → wpAnyH P md ops Q S f l (a p) W)
    (k : (∀ p W, R p W → wpAnyH P md ops Q S f l (a p) W) → wpAnyH P md ops Q S f0 l0 a0 w0) : wpAnyH P md ops Q S f0 l0 a0 w0 := k h
end
end Go.Proofs.YtklcjimmbkpbdaaGreatDoor
namespace Go.Proofs.YtklcjimmbkpbdaaGreatDoor
open Go.RowKit
open Go.Lib

/-- What turns where a text becomes a kid. -/
def AllF (C : Nat) (kv bv : Value) (b : Nat) : Prop := b = C ∨ kv.ownBlock = some b ∨ bv.ownBlock = some b
/-- What a content is, its text aside. -/
structure AllA (C : Nat) (T : Nat → Prop) (kv pv bv : Value) (ks : List XV) (cs : List Value) (w W : World) : Prop where
  blk : Blk C (CoB kv pv bv) W
  kids : W.ownsRow C TNo 5 kv ks.length cs
  read : XRs W T ks cs
  off : Off (fun b => bv.ownBlock = some b) w W
theorem AllA.below {C : Nat} {T : Nat → Prop} {kv pv bv : Value} {ks : List XV} {cs : List Value} {w W W' : World} (h : AllA C T kv pv bv ks cs w W) (hb : Below W.heap.size W W') : AllA C T kv pv bv ks cs w W' :=
  ⟨(Off.of_below hb).blk h.blk (fun h => h), own_off h.kids (Off.of_below hb) (fun _ _ h => h), XRs.off (Off.of_below hb) (fun _ _ h => h) _ _ h.read, h.off.thenB hb⟩
theorem CSt.below {C : Nat} {T : Nat → Prop} {kv pv bv : Value} {ks : List XV} {cs : List Value} {t : Bt} {W W' : World} (h : CSt C T kv pv bv ks cs t W) (hb : Below W.heap.size W W') : CSt C T kv pv bv ks cs t W' :=
  h.off (Off.of_below hb) (fun _ h => h.elim)
/-- The text is taken. -/
theorem CSt.taken {C : Nat} {T : Nat → Prop} {kv pv bv : Value} {ks : List XV} {cs : List Value} {t : Bt} {w W W' : World} (h : CSt C T kv pv bv ks cs t W) (hw : Off (fun b => bv.ownBlock = some b) w W) (ho : Off (fun b => bv.ownBlock = some b) W W') : AllA C T kv pv bv ks cs w W' :=
  ⟨ho.blk h.blk (fun hb => own_apartB h.buf h.blk (by decide) hb), own_off h.kids ho (fun b hb e => own_apart h.kids h.buf (by decide) hb e), XRs.off ho (fun b hb e => (h.apart b hb).2.2.2 e) _ _ h.read, hw.then ho⟩
/-- What is left behind a node that was put behind the nodes. -/
theorem CSt.pushed {C g cap K : Nat} {T : Nat → Prop} {kv pv bv : Value} {ks : List XV} {v : XV} {cs' : List Value} {w W : World} (hK : K = ks.length) (hb : Blk C (CoB (.slice (some ⟨g, 0, none⟩) (K + 1) cap) pv (.slice none 0 0)) W) (hp : pv = .pointer none ∨ pv = .pointer (some ⟨C, 1, none⟩))
    (ho : W.ownsRow C TNo 5 (.slice (some ⟨g, 0, none⟩) (K + 1) cap) (K + 1) cs') (hr : XRs W T (ks ++ [v]) cs') (hT : ∀ b, T b → C < b ∧ b < w.heap.size ∧ kv.ownBlock ≠ some b ∧ bv.ownBlock ≠ some b) (hg : kv.ownBlock = some g ∨ w.heap.size ≤ g) (hs : w.heap.size ≤ W.heap.size) :
    CSt C T (.slice (some ⟨g, 0, none⟩) (K + 1) cap) pv (.slice none 0 0) (ks ++ [v]) cs' [] W := by
  refine ⟨hb, hp, ?_, hr, World.ownsRow_nil _ _ _ _, fun b hb => ?_⟩
  · rw [List.length_append, List.length_singleton, ← hK]; exact ho
  · have h := hT b hb
    refine ⟨h.1, by omega, fun e => ?_, fun e => by cases e⟩
    have e : g = b := Option.some.inj e
    subst e
    rcases hg with hg | hg
    · exact h.2.2.1 hg
    · omega
theorem allX_text {ks : List XV} {t : Bt} (h : t ≠ []) : allX ks t = ks ++ [textX t] := by unfold allX; rw [if_neg h]
theorem XR.agg5 {w : World} {T : Nat → Prop} {v : XV} {x : Value} (h : XR w T v x) : ∃ x0 x1 x2 x3 x4, x = .agg #[x0, x1, x2, x3, x4] ∧ (#[x0, x1, x2, x3, x4] : Array Value).all (·.oneCell') = true := by
  obtain ⟨aA, ac, kA, kc, e⟩ := xr_one h
  exact ⟨_, _, _, _, _, e, all5 rfl rfl rfl rfl rfl⟩
set_option maxRecDepth 100000 in
set_option maxHeartbeats 40000000 in
theorem all_text {C : Nat} {T : Nat → Prop} {kv pv bv : Value} {ks : List XV} {cs : List Value} {t : Bt} {w : World} (h : CSt C T kv pv bv ks cs t w) (ht : t ≠ []) (hk : ks.length ≤ 1000000) :
    Calls Tryz.prog 106 #[.pointer (some ⟨C, 0, none⟩)] w fun e w' => ∃ kv' cs', e = .returned kv' ∧ CSt C T kv' (.pointer none) (.slice none 0 0) (allX ks t) cs' [] w' ∧ Off (AllF C kv bv) w w' := by
  have HL := Lib.hid (lenC_any h)
  have hl0 : 0 < t.length := by cases t with | nil => exact absurd rfl ht | cons => simp
  obtain ⟨L, hL⟩ : ∃ L, t.length = L := ⟨_, rfl⟩
  rw [hL] at HL hl0
  have H := Lib.hid h
  obtain ⟨kA, kc, hkv⟩ := h.kv
  obtain ⟨K, hK⟩ : ∃ K, ks.length = K := ⟨_, rfl⟩
  rw [hK] at hkv hk
  have HK := Lib.hid hK
  subst hkv
  have HT := Lib.hid ht
  have hCl := h.blk.lt
  have hkC : (Value.slice kA K kc).ownBlock ≠ some C := own_apartB h.kids h.blk (by decide)
  have hbl : ∀ b, bv.ownBlock = some b → b < w.heap.size := fun b hb => (World.ownsRow.lt h.buf b hb).2
  have hkCC : ∀ b, (Value.slice kA K kc).ownBlock = some b → C ≤ b := fun b hb => (World.ownsRow.lt h.kids b hb).1
  have HS : Hid (∀ W, CSt C T (.slice kA K kc) pv bv ks cs t W → Calls Tryz.prog 38 #[.pointer (some ⟨C, 1, none⟩)] W (fun e w' => e = .returned (.string (bs t)) ∧ w'.heap.size = W.heap.size ∧ Off (fun b => bv.ownBlock = some b) W w')) := Lib.hid (fun W hW => strC_any hW HT.out)
  have HR : Hid (∀ W kv pv bv, Blk C (CoB kv pv bv) W → Calls Tryz.prog 126 #[.pointer (some ⟨C, 1, none⟩)] W (fun e w' => e = .returned (.tuple #[]) ∧ Blk C (CoB kv (.pointer none) (.slice none 0 0)) w' ∧ Off (fun b => b = C) W w')) := Lib.hid (fun W kv pv bv hW => resetC_any hW)
  clear h hK hL ht
  go_enter Tryz.func106, Tryz.ntmps106
  go_wp2_with fail
  refine HL.out.mono ?_
  rintro e w1 ⟨rfl, rfl⟩
  go_wp2
  obtain ⟨N0, hN0⟩ : ∃ N, w.heap.size = N := ⟨_, rfl⟩
  refine wp_region_held_drew (S := fun _ => True) (by kernel_rfl) trivial (fun _ => ?_)
  have H0 : CSt C T (.slice kA K kc) pv bv ks cs t w.drew := H.out.off (F := fun _ => False) ⟨rfl, rfl, rfl, Nat.le_refl _, fun _ _ _ => rfl⟩ (fun _ h => h.elim)
  have O0 : Off (fun b => bv.ownBlock = some b) w w.drew := ⟨rfl, rfl, rfl, Nat.le_refl _, fun _ _ _ => rfl⟩
  have s0 : w.drew.heap.size = N0 := hN0
  generalize w.drew = w0 at *
  refine wpAnyH_take (i := 0) (v := .pointer (some ⟨C, 0, none⟩)) rfl (by kernel_rfl) (by kernel_rfl) (by kernel_rfl) (fun _ _ _ h => h) (Or.inl ⟨by rfl, by intro w hSw; clear hSw; go_simp⟩) trivial ?_
  change wpAnyH _ _ _ _ _ _ _ (Act.put _ (some 8) _) _
  try simp only [Act.put, List.setIfInBounds_toArray, List.set_cons_zero, List.set_cons_succ]
  refine wpAnyH_take (i := 1) (v := .pointer (some ⟨C, 0, none⟩)) rfl (by kernel_rfl) (by kernel_rfl) (by kernel_rfl) (fun _ _ _ h => h) (Or.inl ⟨by rfl, by intro w hSw; clear hSw; go_simp⟩) trivial ?_
  change wpAnyH _ _ _ _ _ _ _ (Act.put _ (some 9) _) _
  try simp only [Act.put, List.setIfInBounds_toArray, List.set_cons_zero, List.set_cons_succ]
  refine wpAnyH_take (i := 2) (v := .pointer (some ⟨C, 0, none⟩)) rfl (by kernel_rfl) (by kernel_rfl) (by kernel_rfl) (fun _ _ _ h => h) (Or.inl ⟨by rfl, by intro w hSw; clear hSw; go_simp⟩) trivial ?_
  change wpAnyH _ _ _ _ _ _ _ (Act.put _ (some 10) _) _
  try simp only [Act.put, List.setIfInBounds_toArray, List.set_cons_zero, List.set_cons_succ]
  refine wpAnyH_take (i := 4) (v := .pointer (some ⟨C, 0, none⟩)) rfl (by kernel_rfl) (by kernel_rfl) (by kernel_rfl) (fun _ _ _ h => h) (Or.inl ⟨by rfl, by intro w hSw; clear hSw; go_simp⟩) trivial ?_
  change wpAnyH _ _ _ _ _ _ _ (Act.put _ (some 12) _) _
  try simp only [Act.put, List.setIfInBounds_toArray, List.set_cons_zero, List.set_cons_succ]
  refine wpAnyH_take (i := 5) (v := .pointer (some ⟨C, 0, none⟩)) rfl (by kernel_rfl) (by kernel_rfl) (by kernel_rfl) (fun _ _ _ h => h) (Or.inl ⟨by rfl, by intro w hSw; clear hSw; go_simp⟩) trivial ?_
  change wpAnyH _ _ _ _ _ _ _ (Act.put _ (some 13) _) _
  try simp only [Act.put, List.setIfInBounds_toArray, List.set_cons_zero, List.set_cons_succ]
  refine wpAnyH_take (i := 6) (v := .pointer (some ⟨C, 1, none⟩)) rfl (by kernel_rfl) (by kernel_rfl) (by kernel_rfl) (fun _ _ _ h => h) (Or.inl ⟨by rfl, by intro w hSw; clear hSw; go_simp⟩) trivial ?_
  change wpAnyH _ _ _ _ _ _ _ (Act.put _ (some 14) _) _
  try simp only [Act.put, List.setIfInBounds_toArray, List.set_cons_zero, List.set_cons_succ]
  refine orders_meet (f := 6) (l := #[true, true, true, true, true, true, true, true, true, true, true, false, false, false, false, false, false]) (a := { tmps := #[.pointer (some ⟨C, 0, none⟩), undef, .slice none 0 0, .pointer (some ⟨C, 0, none⟩), .pointer (some ⟨C, 0, none⟩), .pointer (some ⟨C, 1, none⟩), .int .i64 (L : Int), .bool true, .pointer (some ⟨C, 0, none⟩), .pointer (some ⟨C, 0, none⟩), .pointer (some ⟨C, 0, none⟩), .slice kA K kc, .pointer (some ⟨C, 0, none⟩), .pointer (some ⟨C, 0, none⟩), .pointer (some ⟨C, 1, none⟩), .string (bs t), .agg #[.string ⟨#[]⟩, .string ⟨#[]⟩, .slice none 0 0, .slice none 0 0, .string (bs t)], .int .i64 (K : Int), .slice (some ⟨N0, 0, none⟩) 1 1, undef, undef, undef, undef, undef, undef, undef, undef, undef, undef, undef, undef], defers := [] }) (fun W => AllA C T (.slice kA K kc) pv bv ks cs w W ∧ Blk N0 ZN W ∧ W.heap.size = N0 + 1) (fun W hW => ?rest) (fun HM => ?here)
  case here =>
    refine wpAnyH_ready (rs := [3, 7, 10]) (by kernel_rfl) (by simp) ?_
    refine AllReadyH.cons (o := { dst := some 11, op := .load 25 (.tmp 10), type := _, pos := _, after := _, guard := none }) rfl (fun K0 hK => ?_) ?_
    · -- 3
      have c0 : w0.cell? ⟨C, 0, none⟩ = some (.slice kA K kc) := H0.blk.cell 0
      go_simp
      refine hK.out _ _ trivial (fun _ => ?_)
      clear hK c0
      try simp only [Act.put, List.setIfInBounds_toArray, List.set_cons_zero, List.set_cons_succ]
      refine wpAnyH_take (i := 9) (v := .int .i64 (K : Int)) rfl (by kernel_rfl) (by kernel_rfl) (by kernel_rfl) (fun _ _ _ h => h) (Or.inl ⟨by rfl, by intro w hSw; clear hSw; go_simp⟩) trivial ?_
      change wpAnyH _ _ _ _ _ _ _ (Act.put _ (some 17) _) _
      try simp only [Act.put, List.setIfInBounds_toArray, List.set_cons_zero, List.set_cons_succ]
      refine wpAnyH_ready (rs := [7, 10]) (by kernel_rfl) (by simp) ?_
      refine AllReadyH.cons (o := { dst := some 15, op := .call { callee := .value (.func 38), args := #[.tmp 14], argTypes := _ }, type := _, pos := _, after := _, guard := none }) rfl (fun K0 hK => ?_) ?_
      · -- 7
        go_simp
        (with_reducible refine (HS.out _ H0).mono ?_)
        rintro e w2 ⟨rfl, hsz, ho⟩
        refine hK.out _ _ trivial (fun _ => ?_)
        clear hK
        try simp only [Act.put, List.setIfInBounds_toArray, List.set_cons_zero, List.set_cons_succ]
        have A2 := H0.taken O0 ho
        have s2 := hsz.trans s0
        clear hsz ho
        refine wpAnyH_take (i := 8) (v := .agg #[.string ⟨#[]⟩, .string ⟨#[]⟩, .slice none 0 0, .slice none 0 0, .string (bs t)]) rfl (by kernel_rfl) (by kernel_rfl) (by kernel_rfl) (fun _ _ _ h => h) (Or.inl ⟨by rfl, by intro w hSw; clear hSw; go_simp⟩) trivial ?_
        change wpAnyH _ _ _ _ _ _ _ (Act.put _ (some 16) _) _
        try simp only [Act.put, List.setIfInBounds_toArray, List.set_cons_zero, List.set_cons_succ]
        refine wpAnyH_ready (rs := [10]) (by kernel_rfl) (by simp) ?_
        refine AllReadyH.cons (o := { dst := some 18, op := .buildSlice 25 1 #[(0, .const (.agg #[.string ⟨#[]⟩, .string ⟨#[]⟩, .slice none 0 0, .slice none 0 0, .string ⟨#[]⟩]))], type := _, pos := _, after := _, guard := none }) rfl (fun K0 hK => ?_) AllReadyH.nil
        go_simp
        refine hK.out _ _ trivial (fun _ => ?_)
        clear hK
        try simp only [Act.put, List.setIfInBounds_toArray, List.set_cons_zero, List.set_cons_succ]
        have A3 := A2.below (below_alloc8 w2 ZN)
        have Z3 : Blk N0 ZN (w2.alloc ZN) := by have := Blk.new ZN w2; rwa [s2] at this
        have s3 : (w2.alloc ZN).heap.size = N0 + 1 := by simp [s2]
        generalize w2.alloc ZN = w3 at *
        exact HM _ ⟨A3, Z3, s3⟩
      refine AllReadyH.cons (o := { dst := some 18, op := .buildSlice 25 1 #[(0, .const (.agg #[.string ⟨#[]⟩, .string ⟨#[]⟩, .slice none 0 0, .slice none 0 0, .string ⟨#[]⟩]))], type := _, pos := _, after := _, guard := none }) rfl (fun K0 hK => ?_) AllReadyH.nil
      go_simp
      refine hK.out _ _ trivial (fun _ => ?_)
      clear hK
      try simp only [Act.put, List.setIfInBounds_toArray, List.set_cons_zero, List.set_cons_succ]
      have H2 := H0.below (below_alloc8 w0 ZN)
      have Z2 : Blk N0 ZN (w0.alloc ZN) := by have := Blk.new ZN w0; rwa [s0] at this
      have s2 : (w0.alloc ZN).heap.size = N0 + 1 := by simp [s0]
      have O2 := O0.thenB (below_alloc8 w0 ZN)
      generalize w0.alloc ZN = w2 at *
      refine wpAnyH_ready (rs := [7]) (by kernel_rfl) (by simp) ?_
      refine AllReadyH.cons (o := { dst := some 15, op := .call { callee := .value (.func 38), args := #[.tmp 14], argTypes := _ }, type := _, pos := _, after := _, guard := none }) rfl (fun K0 hK => ?_) AllReadyH.nil
      go_simp
      (with_reducible refine (HS.out _ H2).mono ?_)
      rintro e w3 ⟨rfl, hsz, ho⟩
      refine hK.out _ _ trivial (fun _ => ?_)
      clear hK
      try simp only [Act.put, List.setIfInBounds_toArray, List.set_cons_zero, List.set_cons_succ]
      have A3 := H2.taken O2 ho
      have s3 := hsz.trans s2
      have Z3 : Blk N0 ZN w3 := ho.blk Z2 (fun e => by have := hbl _ e; omega)
      clear hsz ho
      refine wpAnyH_take (i := 8) (v := .agg #[.string ⟨#[]⟩, .string ⟨#[]⟩, .slice none 0 0, .slice none 0 0, .string (bs t)]) rfl (by kernel_rfl) (by kernel_rfl) (by kernel_rfl) (fun _ _ _ h => h) (Or.inl ⟨by rfl, by intro w hSw; clear hSw; go_simp⟩) trivial ?_
      change wpAnyH _ _ _ _ _ _ _ (Act.put _ (some 16) _) _
      try simp only [Act.put, List.setIfInBounds_toArray, List.set_cons_zero, List.set_cons_succ]
      exact HM _ ⟨A3, Z3, s3⟩
    refine AllReadyH.cons (o := { dst := some 15, op := .call { callee := .value (.func 38), args := #[.tmp 14], argTypes := _ }, type := _, pos := _, after := _, guard := none }) rfl (fun K0 hK => ?_) ?_
    · -- 7
      go_simp
      (with_reducible refine (HS.out _ H0).mono ?_)
      rintro e w1 ⟨rfl, hsz, ho⟩
      refine hK.out _ _ trivial (fun _ => ?_)
      clear hK
      try simp only [Act.put, List.setIfInBounds_toArray, List.set_cons_zero, List.set_cons_succ]
      have A1 := H0.taken O0 ho
      have s1 := hsz.trans s0
      clear hsz ho
      refine wpAnyH_take (i := 8) (v := .agg #[.string ⟨#[]⟩, .string ⟨#[]⟩, .slice none 0 0, .slice none 0 0, .string (bs t)]) rfl (by kernel_rfl) (by kernel_rfl) (by kernel_rfl) (fun _ _ _ h => h) (Or.inl ⟨by rfl, by intro w hSw; clear hSw; go_simp⟩) trivial ?_
      change wpAnyH _ _ _ _ _ _ _ (Act.put _ (some 16) _) _
      try simp only [Act.put, List.setIfInBounds_toArray, List.set_cons_zero, List.set_cons_succ]
      refine wpAnyH_ready (rs := [3, 10]) (by kernel_rfl) (by simp) ?_
      refine AllReadyH.cons (o := { dst := some 11, op := .load 25 (.tmp 10), type := _, pos := _, after := _, guard := none }) rfl (fun K0 hK => ?_) ?_
      · -- 3
        have c0 : w1.cell? ⟨C, 0, none⟩ = some (.slice kA K kc) := A1.blk.cell 0
        go_simp
        refine hK.out _ _ trivial (fun _ => ?_)
        clear hK c0
        try simp only [Act.put, List.setIfInBounds_toArray, List.set_cons_zero, List.set_cons_succ]
        refine wpAnyH_take (i := 9) (v := .int .i64 (K : Int)) rfl (by kernel_rfl) (by kernel_rfl) (by kernel_rfl) (fun _ _ _ h => h) (Or.inl ⟨by rfl, by intro w hSw; clear hSw; go_simp⟩) trivial ?_
        change wpAnyH _ _ _ _ _ _ _ (Act.put _ (some 17) _) _
        try simp only [Act.put, List.setIfInBounds_toArray, List.set_cons_zero, List.set_cons_succ]
        refine wpAnyH_ready (rs := [10]) (by kernel_rfl) (by simp) ?_
        refine AllReadyH.cons (o := { dst := some 18, op := .buildSlice 25 1 #[(0, .const (.agg #[.string ⟨#[]⟩, .string ⟨#[]⟩, .slice none 0 0, .slice none 0 0, .string ⟨#[]⟩]))], type := _, pos := _, after := _, guard := none }) rfl (fun K0 hK => ?_) AllReadyH.nil
        go_simp
        refine hK.out _ _ trivial (fun _ => ?_)
        clear hK
        try simp only [Act.put, List.setIfInBounds_toArray, List.set_cons_zero, List.set_cons_succ]
        have A3 := A1.below (below_alloc8 w1 ZN)
        have Z3 : Blk N0 ZN (w1.alloc ZN) := by have := Blk.new ZN w1; rwa [s1] at this
        have s3 : (w1.alloc ZN).heap.size = N0 + 1 := by simp [s1]
        generalize w1.alloc ZN = w3 at *
        exact HM _ ⟨A3, Z3, s3⟩
      refine AllReadyH.cons (o := { dst := some 18, op := .buildSlice 25 1 #[(0, .const (.agg #[.string ⟨#[]⟩, .string ⟨#[]⟩, .slice none 0 0, .slice none 0 0, .string ⟨#[]⟩]))], type := _, pos := _, after := _, guard := none }) rfl (fun K0 hK => ?_) AllReadyH.nil
      go_simp
      refine hK.out _ _ trivial (fun _ => ?_)
      clear hK
      try simp only [Act.put, List.setIfInBounds_toArray, List.set_cons_zero, List.set_cons_succ]
      have A2 := A1.below (below_alloc8 w1 ZN)
      have Z2 : Blk N0 ZN (w1.alloc ZN) := by have := Blk.new ZN w1; rwa [s1] at this
      have s2 : (w1.alloc ZN).heap.size = N0 + 1 := by simp [s1]
      generalize w1.alloc ZN = w2 at *
      refine wpAnyH_ready (rs := [3]) (by kernel_rfl) (by simp) ?_
      refine AllReadyH.cons (o := { dst := some 11, op := .load 25 (.tmp 10), type := _, pos := _, after := _, guard := none }) rfl (fun K0 hK => ?_) AllReadyH.nil
      have c0 : w2.cell? ⟨C, 0, none⟩ = some (.slice kA K kc) := A2.blk.cell 0
      go_simp
      refine hK.out _ _ trivial (fun _ => ?_)
      clear hK c0
      try simp only [Act.put, List.setIfInBounds_toArray, List.set_cons_zero, List.set_cons_succ]
      refine wpAnyH_take (i := 9) (v := .int .i64 (K : Int)) rfl (by kernel_rfl) (by kernel_rfl) (by kernel_rfl) (fun _ _ _ h => h) (Or.inl ⟨by rfl, by intro w hSw; clear hSw; go_simp⟩) trivial ?_
      change wpAnyH _ _ _ _ _ _ _ (Act.put _ (some 17) _) _
      try simp only [Act.put, List.setIfInBounds_toArray, List.set_cons_zero, List.set_cons_succ]
      exact HM _ ⟨A2, Z2, s2⟩
    refine AllReadyH.cons (o := { dst := some 18, op := .buildSlice 25 1 #[(0, .const (.agg #[.string ⟨#[]⟩, .string ⟨#[]⟩, .slice none 0 0, .slice none 0 0, .string ⟨#[]⟩]))], type := _, pos := _, after := _, guard := none }) rfl (fun K0 hK => ?_) AllReadyH.nil
    go_simp
    refine hK.out _ _ trivial (fun _ => ?_)
    clear hK
    try simp only [Act.put, List.setIfInBounds_toArray, List.set_cons_zero, List.set_cons_succ]
    have H1 := H0.below (below_alloc8 w0 ZN)
    have Z1 : Blk N0 ZN (w0.alloc ZN) := by have := Blk.new ZN w0; rwa [s0] at this
    have s1 : (w0.alloc ZN).heap.size = N0 + 1 := by simp [s0]
    have O1 := O0.thenB (below_alloc8 w0 ZN)
    generalize w0.alloc ZN = w1 at *
    refine wpAnyH_ready (rs := [3, 7]) (by kernel_rfl) (by simp) ?_
    refine AllReadyH.cons (o := { dst := some 11, op := .load 25 (.tmp 10), type := _, pos := _, after := _, guard := none }) rfl (fun K0 hK => ?_) ?_
    · -- 3
      have c0 : w1.cell? ⟨C, 0, none⟩ = some (.slice kA K kc) := H1.blk.cell 0
      go_simp
      refine hK.out _ _ trivial (fun _ => ?_)
      clear hK c0
      try simp only [Act.put, List.setIfInBounds_toArray, List.set_cons_zero, List.set_cons_succ]
      refine wpAnyH_take (i := 9) (v := .int .i64 (K : Int)) rfl (by kernel_rfl) (by kernel_rfl) (by kernel_rfl) (fun _ _ _ h => h) (Or.inl ⟨by rfl, by intro w hSw; clear hSw; go_simp⟩) trivial ?_
      change wpAnyH _ _ _ _ _ _ _ (Act.put _ (some 17) _) _
      try simp only [Act.put, List.setIfInBounds_toArray, List.set_cons_zero, List.set_cons_succ]
      refine wpAnyH_ready (rs := [7]) (by kernel_rfl) (by simp) ?_
      refine AllReadyH.cons (o := { dst := some 15, op := .call { callee := .value (.func 38), args := #[.tmp 14], argTypes := _ }, type := _, pos := _, after := _, guard := none }) rfl (fun K0 hK => ?_) AllReadyH.nil
      go_simp
      (with_reducible refine (HS.out _ H1).mono ?_)
      rintro e w3 ⟨rfl, hsz, ho⟩
      refine hK.out _ _ trivial (fun _ => ?_)
      clear hK
      try simp only [Act.put, List.setIfInBounds_toArray, List.set_cons_zero, List.set_cons_succ]
      have A3 := H1.taken O1 ho
      have s3 := hsz.trans s1
      have Z3 : Blk N0 ZN w3 := ho.blk Z1 (fun e => by have := hbl _ e; omega)
      clear hsz ho
      refine wpAnyH_take (i := 8) (v := .agg #[.string ⟨#[]⟩, .string ⟨#[]⟩, .slice none 0 0, .slice none 0 0, .string (bs t)]) rfl (by kernel_rfl) (by kernel_rfl) (by kernel_rfl) (fun _ _ _ h => h) (Or.inl ⟨by rfl, by intro w hSw; clear hSw; go_simp⟩) trivial ?_
      change wpAnyH _ _ _ _ _ _ _ (Act.put _ (some 16) _) _
      try simp only [Act.put, List.setIfInBounds_toArray, List.set_cons_zero, List.set_cons_succ]
      exact HM _ ⟨A3, Z3, s3⟩
    refine AllReadyH.cons (o := { dst := some 15, op := .call { callee := .value (.func 38), args := #[.tmp 14], argTypes := _ }, type := _, pos := _, after := _, guard := none }) rfl (fun K0 hK => ?_) AllReadyH.nil
    go_simp
    (with_reducible refine (HS.out _ H1).mono ?_)
    rintro e w2 ⟨rfl, hsz, ho⟩
    refine hK.out _ _ trivial (fun _ => ?_)
    clear hK
    try simp only [Act.put, List.setIfInBounds_toArray, List.set_cons_zero, List.set_cons_succ]
    have A2 := H1.taken O1 ho
    have s2 := hsz.trans s1
    have Z2 : Blk N0 ZN w2 := ho.blk Z1 (fun e => by have := hbl _ e; omega)
    clear hsz ho
    refine wpAnyH_take (i := 8) (v := .agg #[.string ⟨#[]⟩, .string ⟨#[]⟩, .slice none 0 0, .slice none 0 0, .string (bs t)]) rfl (by kernel_rfl) (by kernel_rfl) (by kernel_rfl) (fun _ _ _ h => h) (Or.inl ⟨by rfl, by intro w hSw; clear hSw; go_simp⟩) trivial ?_
    change wpAnyH _ _ _ _ _ _ _ (Act.put _ (some 16) _) _
    try simp only [Act.put, List.setIfInBounds_toArray, List.set_cons_zero, List.set_cons_succ]
    refine wpAnyH_ready (rs := [3]) (by kernel_rfl) (by simp) ?_
    refine AllReadyH.cons (o := { dst := some 11, op := .load 25 (.tmp 10), type := _, pos := _, after := _, guard := none }) rfl (fun K0 hK => ?_) AllReadyH.nil
    have c0 : w2.cell? ⟨C, 0, none⟩ = some (.slice kA K kc) := A2.blk.cell 0
    go_simp
    refine hK.out _ _ trivial (fun _ => ?_)
    clear hK c0
    try simp only [Act.put, List.setIfInBounds_toArray, List.set_cons_zero, List.set_cons_succ]
    refine wpAnyH_take (i := 9) (v := .int .i64 (K : Int)) rfl (by kernel_rfl) (by kernel_rfl) (by kernel_rfl) (fun _ _ _ h => h) (Or.inl ⟨by rfl, by intro w hSw; clear hSw; go_simp⟩) trivial ?_
    change wpAnyH _ _ _ _ _ _ _ (Act.put _ (some 17) _) _
    try simp only [Act.put, List.setIfInBounds_toArray, List.set_cons_zero, List.set_cons_succ]
    exact HM _ ⟨A2, Z2, s2⟩
  case rest =>
    clear H0 O0 s0 w0
    obtain ⟨A1, Z1, s1⟩ := hW
    obtain ⟨i0, hi, hz0, hz1, hz2⟩ := info_parts Tryz.info8N
    refine wpAnyH_ready (rs := [11]) (by kernel_rfl) (by simp) ?_
    refine AllReadyH.cons (o := { dst := some 19, op := .call { callee := .builtin .append, args := #[.tmp 11, .tmp 18], argTypes := #[25, 25] }, type := _, pos := _, after := _, guard := none }) rfl (fun K' hK' => ?_) AllReadyH.nil
    refine step_append_lies W rfl (.tmp 11) (.tmp 18) 25 rfl C TNo i0 _ 5 96 Tryz.underlying25 hi hz0 hz1 hz2 rfl (by decide) (.slice kA K kc) K cs rfl (by have := A1.kids; rw [HK.out] at this; exact this) ⟨N0, 0, none⟩ 1 1 zN5 rfl rfl (World.news_of_block Z1) (fun u hu => by simp at hu; rcases hu with rfl | rfl | rfl | rfl | rfl <;> rfl) (by decide) (by unfold maxLen; omega) (by omega) (by omega) (N0 + 1) s1 ?_
    intro g cap w2 L2 gr2 at2 lt2
    have o2 := Off.of_grown gr2
    refine hK'.out _ _ trivial (fun _ => ?_)
    clear hK' K'
    try simp only [Act.put, List.setIfInBounds_toArray, List.set_cons_zero, List.set_cons_succ]
    have B2 : Blk C (CoB (.slice kA K kc) pv bv) w2 := o2.blk A1.blk (fun e => hkC e)
    have R2 : XRs w2 T ks cs := XRs.off o2 (fun b hb e => (H.out.apart b hb).2.2.1 e) _ _ A1.read
    have hat : (Value.slice kA K kc).ownBlock = some g ∨ w.heap.size ≤ g := at2.imp id (fun h => by omega)
    have hgC : C < g := by
      rcases hat with h | h
      · have h1 := hkCC g h
        have h2 : g ≠ C := fun e => hkC (by rw [h, e])
        omega
      · omega
    have hgT : ∀ b, T b → b ≠ g := fun b hb e => by
      subst e
      rcases hat with h | h
      · exact (H.out.apart b hb).2.2.1 h
      · have := (H.out.apart b hb).2.1; omega
    have O2 : Off (AllF C (.slice kA K kc) bv) w w2 := (A1.off.mono (fun b h => .inr (.inr h))).then (o2.mono (fun b h => .inr (.inl h)))
    clear at2 gr2 o2 Z1 s1 A1
    have hg1 : (0 : Int) ≤ (K : Int) ∧ (K : Int) < ((K + 1 : Nat) : Int) := by omega
    have hg2 : (0 : Int) ≤ (K : Int) ∧ (K : Int) < (K : Int) + 1 := by omega
    refine wpAnyH_take (i := 12) (v := .pointer (some ⟨g, K * 5, none⟩)) rfl (by kernel_rfl) (by kernel_rfl) (by kernel_rfl) (fun _ _ _ h => h) (Or.inl ⟨by rfl, by intro w hSw; clear hSw; go_simp⟩) trivial ?_
    change wpAnyH _ _ _ _ _ _ _ (Act.put _ (some 20) _) _
    try simp only [Act.put, List.setIfInBounds_toArray, List.set_cons_zero, List.set_cons_succ]
    refine wpAnyH_take (i := 14) (v := .pointer (some ⟨C, 0, none⟩)) rfl (by kernel_rfl) (by kernel_rfl) (by kernel_rfl) (fun _ _ _ h => h) (Or.inl ⟨by rfl, by intro w hSw; clear hSw; go_simp⟩) trivial ?_
    change wpAnyH _ _ _ _ _ _ _ (Act.put _ (some 21) _) _
    try simp only [Act.put, List.setIfInBounds_toArray, List.set_cons_zero, List.set_cons_succ]
    refine wpAnyH_take (i := 15) (v := .pointer (some ⟨C, 0, none⟩)) rfl (by kernel_rfl) (by kernel_rfl) (by kernel_rfl) (fun _ _ _ h => h) (Or.inl ⟨by rfl, by intro w hSw; clear hSw; go_simp⟩) trivial ?_
    change wpAnyH _ _ _ _ _ _ _ (Act.put _ (some 22) _) _
    try simp only [Act.put, List.setIfInBounds_toArray, List.set_cons_zero, List.set_cons_succ]
    refine wpAnyH_ready (rs := [13, 16]) (by kernel_rfl) (by simp) ?_
    refine AllReadyH.cons (o := { dst := none, op := .store TNo (.tmp 20) (.tmp 16), type := _, pos := _, after := _, guard := none }) rfl (fun K0 hK => ?_) ?_
    · -- the element first
      refine step_st5 rfl 20 16 rfl rfl w2 (b := g) (k := K * 5) (x0 := .string ⟨#[]⟩) (x1 := .string ⟨#[]⟩) (x2 := .slice none 0 0) (x3 := .slice none 0 0) (x4 := .string (bs t)) rfl rfl (own5_there L2) (all5 rfl rfl rfl rfl rfl) ?_
      have o3 := off_sets8 g [.string ⟨#[]⟩, .string ⟨#[]⟩, .slice none 0 0, .slice none 0 0, .string (bs t)] (K * 5) w2
      have L3 := own5_set (x0 := .string ⟨#[]⟩) (x1 := .string ⟨#[]⟩) (x2 := .slice none 0 0) (x3 := .slice none 0 0) (x4 := .string (bs t)) (by have := H.out.kids.1; rw [HK.out] at this; exact this) L2
      have B3 := o3.blk B2 (fun e => by omega)
      have R3 := XRs.off o3 (fun b hb e => hgT b hb e) _ _ R2
      have O3 := O2.trans o3 (fun b h => by rw [h]; exact hat.imp (fun h => .inr (.inl h)) id)
      refine hK.out _ _ trivial (fun _ => ?_)
      clear hK
      generalize w2.setCells g (K * 5) [.string ⟨#[]⟩, .string ⟨#[]⟩, .slice none 0 0, .slice none 0 0, .string (bs t)] = w3 at *
      refine wpAnyH_ready (rs := [16]) (by kernel_rfl) (by simp) ?_
      refine AllReadyH.cons (o := { dst := none, op := .store 25 (.tmp 22) (.tmp 19), type := _, pos := _, after := _, guard := none }) rfl (fun K0 hK => ?_) AllReadyH.nil
      refine step_stS rfl 22 19 rfl rfl w3 (b := C) (k := 0) (v := .slice (some ⟨g, 0, none⟩) (K + 1) cap) rfl rfl (B3.cell 0) (B3.free 0) ⟨_, _, _, rfl⟩ ?_
      have o4 := off_set8 w3 C 0 (.slice (some ⟨g, 0, none⟩) (K + 1) cap)
      have L4 := own_off L3 o4 (fun b hb e => by have : g = b := Option.some.inj hb; omega)
      have B4 : Blk C (CoB (.slice (some ⟨g, 0, none⟩) (K + 1) cap) pv bv) (w3.setCell ⟨C, 0, none⟩ (.slice (some ⟨g, 0, none⟩) (K + 1) cap)) := by have := B3.set 0 (.slice (some ⟨g, 0, none⟩) (K + 1) cap); simpa using this
      have R4 := XRs.off o4 (fun b hb e => by have := (H.out.apart b hb).1; omega) _ _ R3
      have O4 := O3.then (o4.mono (fun b h => .inl h))
      refine hK.out _ _ trivial (fun _ => ?_)
      clear hK
      generalize w3.setCell ⟨C, 0, none⟩ (.slice (some ⟨g, 0, none⟩) (K + 1) cap) = w4 at *
      refine wpAnyH_done (by kernel_rfl) ?_ _
      go_wp2_with fail
      refine (HR.out _ _ _ _ B4).mono ?_
      rintro e w5 ⟨rfl, B5, o5⟩
      have L5 := own_off L4 o5 (fun b hb e => by have : g = b := Option.some.inj hb; omega)
      have R5 := XRs.off o5 (fun b hb e => by have := (H.out.apart b hb).1; omega) _ _ R4
      have O5 := O4.then (o5.mono (fun b h => .inl h))
      have HC5 : Hid (CSt C T (.slice (some ⟨g, 0, none⟩) (K + 1) cap) (.pointer none) (.slice none 0 0) (ks ++ [textX t]) _ [] w5) := Lib.hid (CSt.pushed HK.out.symm B5 (.inl rfl) L5 (XRs.snoc (xr_text w5 T t) ks cs R5) H.out.apart hat O5.size)
      have HO5 := Lib.hid O5
      have c5 : w5.cell? ⟨C, 0, none⟩ = some (.slice (some ⟨g, 0, none⟩) (K + 1) cap) := B5.cell 0
      clear L5 R5 O5 B5 o5
      go_wp2
      go_ret
      exact ⟨_, _, rfl, by rw [allX_text HT.out]; exact HC5.out, HO5.out⟩
    · -- the field first
      refine AllReadyH.cons (o := { dst := none, op := .store 25 (.tmp 22) (.tmp 19), type := _, pos := _, after := _, guard := none }) rfl (fun K0 hK => ?_) AllReadyH.nil
      refine step_stS rfl 22 19 rfl rfl w2 (b := C) (k := 0) (v := .slice (some ⟨g, 0, none⟩) (K + 1) cap) rfl rfl (B2.cell 0) (B2.free 0) ⟨_, _, _, rfl⟩ ?_
      have o3 := off_set8 w2 C 0 (.slice (some ⟨g, 0, none⟩) (K + 1) cap)
      have L3 := own_off L2 o3 (fun b hb e => by have : g = b := Option.some.inj hb; omega)
      have B3 : Blk C (CoB (.slice (some ⟨g, 0, none⟩) (K + 1) cap) pv bv) (w2.setCell ⟨C, 0, none⟩ (.slice (some ⟨g, 0, none⟩) (K + 1) cap)) := by have := B2.set 0 (.slice (some ⟨g, 0, none⟩) (K + 1) cap); simpa using this
      have R3 := XRs.off o3 (fun b hb e => by have := (H.out.apart b hb).1; omega) _ _ R2
      have O3 := O2.then (o3.mono (fun b h => .inl h))
      refine hK.out _ _ trivial (fun _ => ?_)
      clear hK
      generalize w2.setCell ⟨C, 0, none⟩ (.slice (some ⟨g, 0, none⟩) (K + 1) cap) = w3 at *
      refine wpAnyH_ready (rs := [13]) (by kernel_rfl) (by simp) ?_
      refine AllReadyH.cons (o := { dst := none, op := .store TNo (.tmp 20) (.tmp 16), type := _, pos := _, after := _, guard := none }) rfl (fun K0 hK => ?_) AllReadyH.nil
      refine step_st5 rfl 20 16 rfl rfl w3 (b := g) (k := K * 5) (x0 := .string ⟨#[]⟩) (x1 := .string ⟨#[]⟩) (x2 := .slice none 0 0) (x3 := .slice none 0 0) (x4 := .string (bs t)) rfl rfl (own5_there L3) (all5 rfl rfl rfl rfl rfl) ?_
      have o4 := off_sets8 g [.string ⟨#[]⟩, .string ⟨#[]⟩, .slice none 0 0, .slice none 0 0, .string (bs t)] (K * 5) w3
      have L4 := own5_set (x0 := .string ⟨#[]⟩) (x1 := .string ⟨#[]⟩) (x2 := .slice none 0 0) (x3 := .slice none 0 0) (x4 := .string (bs t)) (by have := H.out.kids.1; rw [HK.out] at this; exact this) L3
      have B4 := o4.blk B3 (fun e => by omega)
      have R4 := XRs.off o4 (fun b hb e => hgT b hb e) _ _ R3
      have O4 := O3.trans o4 (fun b h => by rw [h]; exact hat.imp (fun h => .inr (.inl h)) id)
      refine hK.out _ _ trivial (fun _ => ?_)
      clear hK
      generalize w3.setCells g (K * 5) [.string ⟨#[]⟩, .string ⟨#[]⟩, .slice none 0 0, .slice none 0 0, .string (bs t)] = w4 at *
      refine wpAnyH_done (by kernel_rfl) ?_ _
      go_wp2_with fail
      refine (HR.out _ _ _ _ B4).mono ?_
      rintro e w5 ⟨rfl, B5, o5⟩
      have L5 := own_off L4 o5 (fun b hb e => by have : g = b := Option.some.inj hb; omega)
      have R5 := XRs.off o5 (fun b hb e => by have := (H.out.apart b hb).1; omega) _ _ R4
      have O5 := O4.then (o5.mono (fun b h => .inl h))
      have HC5 : Hid (CSt C T (.slice (some ⟨g, 0, none⟩) (K + 1) cap) (.pointer none) (.slice none 0 0) (ks ++ [textX t]) _ [] w5) := Lib.hid (CSt.pushed HK.out.symm B5 (.inl rfl) L5 (XRs.snoc (xr_text w5 T t) ks cs R5) H.out.apart hat O5.size)
      have HO5 := Lib.hid O5
      have c5 : w5.cell? ⟨C, 0, none⟩ = some (.slice (some ⟨g, 0, none⟩) (K + 1) cap) := B5.cell 0
      clear L5 R5 O5 B5 o5
      go_wp2
      go_ret
      exact ⟨_, _, rfl, by rw [allX_text HT.out]; exact HC5.out, HO5.out⟩
theorem all_any {C : Nat} {T : Nat → Prop} {kv pv bv : Value} {ks : List XV} {cs : List Value} {t : Bt} {w : World} (h : CSt C T kv pv bv ks cs t w) (hk : ks.length ≤ 1000000) :
    Calls Tryz.prog 106 #[.pointer (some ⟨C, 0, none⟩)] w fun e w' => ∃ kv' pv' bv' cs', e = .returned kv' ∧ CSt C T kv' pv' bv' (allX ks t) cs' [] w' ∧ Off (AllF C kv bv) w w' := by
  by_cases ht : t = []
  · subst ht
    have HL := Lib.hid (lenC_any h)
    obtain ⟨kA, kc, rfl⟩ := h.kv
    have H := Lib.hid h
    have c0 : w.cell? ⟨C, 0, none⟩ = some (.slice kA ks.length kc) := h.blk.cell 0
    obtain ⟨K, hK⟩ : ∃ K, ks.length = K := ⟨_, rfl⟩
    rw [hK] at c0 ⊢
    have HK := Lib.hid hK
    clear h hK hk
    go_enter Tryz.func106, Tryz.ntmps106
    go_wp2_with (go_at_call 125; (with_reducible refine HL.out.mono ?_); rintro e w1 ⟨rfl, rfl⟩)
    go_ret
    exact ⟨_, pv, bv, cs, rfl, by rw [← HK.out]; exact H.out, Off.refl _ _⟩
  · refine (all_text h ht hk).mono ?_
    rintro e w' ⟨kv', cs', rfl, hC, ho⟩
    exact ⟨kv', _, _, cs', rfl, hC, ho⟩
set_option maxRecDepth 100000 in
set_option maxHeartbeats 40000000 in
theorem add_any {C : Nat} {T : Nat → Prop} {kv pv bv : Value} {ks : List XV} {cs : List Value} {t : Bt} {w : World} {v : XV} {x : Value} (h : CSt C T kv pv bv ks cs t w) (hx : XR w T v x) (hk : ks.length ≤ 500000) :
    Calls Tryz.prog 123 #[.pointer (some ⟨C, 0, none⟩), x] w fun e w' => ∃ kv' pv' bv' cs', e = .returned (.tuple #[]) ∧ CSt C T kv' pv' bv' (allX ks t ++ [v]) cs' [] w' ∧ Off (fun b => C ≤ b) w w' := by
  obtain ⟨x0, x1, x2, x3, x4, rfl, hone⟩ := hx.agg5
  have hl1 : (allX ks t).length ≤ 1000000 := by
    unfold allX
    split
    · omega
    · rw [List.length_append, List.length_singleton]; omega
  obtain ⟨N, hN⟩ : ∃ N, (allX ks t).length = N := ⟨_, rfl⟩
  rw [hN] at hl1
  have HN := Lib.hid hN
  have hCl := h.blk.lt
  have hfr : ∀ b, AllF C kv bv b → C ≤ b ∧ b < w.heap.size := fun b hb => by
    rcases hb with hb | hb | hb
    · exact ⟨Nat.le_of_eq hb.symm, by omega⟩
    · exact World.ownsRow.lt h.kids b hb
    · exact World.ownsRow.lt h.buf b hb
  obtain ⟨B, hB⟩ : ∃ B, w.heap.size = B := ⟨_, rfl⟩
  have HH : Hid (CSt C T kv pv bv ks cs t (w.alloc (.cells #[x0, x1, x2, x3, x4] TNo (0, 0)))) := Lib.hid (h.below (below_alloc8 _ _))
  have HB : Hid (Blk B (.cells #[x0, x1, x2, x3, x4] TNo (0, 0)) (w.alloc (.cells #[x0, x1, x2, x3, x4] TNo (0, 0)))) := Lib.hid (by have := Blk.new (.cells #[x0, x1, x2, x3, x4] TNo (0, 0)) w; rwa [hB] at this)
  have HX : Hid (XR (w.alloc (.cells #[x0, x1, x2, x3, x4] TNo (0, 0))) T v (.agg #[x0, x1, x2, x3, x4])) := Lib.hid (hx.below (below_alloc8 _ _))
  have HO : Hid (Off (fun b => C ≤ b) w (w.alloc (.cells #[x0, x1, x2, x3, x4] TNo (0, 0)))) := Lib.hid (Off.ofB (below_alloc8 _ _))
  have hAT : ∀ b, T b → ¬ AllF C kv bv b := fun b hb e => by
    have h1 := h.apart b hb
    rcases e with e | e | e
    · omega
    · exact h1.2.2.1 e
    · exact h1.2.2.2 e
  have HA : Hid (∀ W, CSt C T kv pv bv ks cs t W → Calls Tryz.prog 106 #[.pointer (some ⟨C, 0, none⟩)] W (fun e w' => ∃ kv' pv' bv' cs', e = .returned kv' ∧ CSt C T kv' pv' bv' (allX ks t) cs' [] w' ∧ Off (AllF C kv bv) W w')) := Lib.hid (fun W hW => all_any hW (by omega))
  clear h hx hN hk
  go_enter Tryz.func123, Tryz.ntmps123
  go_wp2
  generalize w.alloc (.cells #[x0, x1, x2, x3, x4] TNo (0, 0)) = wb at *
  refine wp_region_held_drew (S := fun _ => True) (by kernel_rfl) trivial (fun _ => ?_)
  have D0 : Off (fun _ => False) wb wb.drew := ⟨rfl, rfl, rfl, Nat.le_refl _, fun _ _ _ => rfl⟩
  have H0 : CSt C T kv pv bv ks cs t wb.drew := HH.out.off (F := fun _ => False) ⟨rfl, rfl, rfl, Nat.le_refl _, fun _ _ _ => rfl⟩ (fun _ h => h.elim)
  have B0 : Blk B (.cells #[x0, x1, x2, x3, x4] TNo (0, 0)) wb.drew := HB.out
  have O0 : Off (fun b => C ≤ b) w wb.drew := HO.out.then ⟨rfl, rfl, rfl, Nat.le_refl _, fun _ _ _ => rfl⟩
  have X0 : XR wb.drew T v (.agg #[x0, x1, x2, x3, x4]) := XR.off D0 (fun _ _ h => h) _ _ HX.out
  have hBl : B ≤ wb.drew.heap.size := by have := B0.lt; omega
  generalize wb.drew = w0 at *
  clear HH HB HX HO D0
  refine wpAnyH_take (i := 0) (v := .pointer (some ⟨C, 0, none⟩)) rfl (by kernel_rfl) (by kernel_rfl) (by kernel_rfl) (fun _ _ _ h => h) (Or.inl ⟨by rfl, by intro w hSw; clear hSw; go_simp⟩) trivial ?_
  change wpAnyH _ _ _ _ _ _ _ (Act.put _ (some 4) _) _
  try simp only [Act.put, List.setIfInBounds_toArray, List.set_cons_zero, List.set_cons_succ]
  refine wpAnyH_take (i := 1) (v := .pointer (some ⟨C, 0, none⟩)) rfl (by kernel_rfl) (by kernel_rfl) (by kernel_rfl) (fun _ _ _ h => h) (Or.inl ⟨by rfl, by intro w hSw; clear hSw; go_simp⟩) trivial ?_
  change wpAnyH _ _ _ _ _ _ _ (Act.put _ (some 5) _) _
  try simp only [Act.put, List.setIfInBounds_toArray, List.set_cons_zero, List.set_cons_succ]
  refine orders_meetP (α := Nat × Option Addr × Nat) (f := 4) (l := #[true, true, true, true, true, false, false, false, false]) (fun p => { tmps := #[.pointer (some ⟨C, 0, none⟩), .agg #[x0, x1, x2, x3, x4], undef, .pointer (some ⟨B, 0, none⟩), .pointer (some ⟨C, 0, none⟩), .pointer (some ⟨C, 0, none⟩), .slice p.2.1 N p.2.2, .agg #[x0, x1, x2, x3, x4], .slice (some ⟨p.1, 0, none⟩) 1 1, undef, undef, undef], defers := [] }) (fun p W => ∃ pv1 bv1 cs1, CSt C T (.slice p.2.1 N p.2.2) pv1 bv1 (allX ks t) cs1 [] W ∧ Blk p.1 (.cells #[x0, x1, x2, x3, x4] TNo (0, 0)) W ∧ XR W T v (.agg #[x0, x1, x2, x3, x4]) ∧ Off (fun b => C ≤ b) w W) (fun p W hW => ?rest) (fun HM => ?here)
  case here =>
    refine wpAnyH_ready (rs := [2, 3]) (by kernel_rfl) (by simp) ?_
    refine AllReadyH.cons (o := { dst := some 6, op := .call { callee := .value (.func 106), args := #[.tmp 5], argTypes := _ }, type := _, pos := _, after := _, guard := none }) rfl (fun K0 hK => ?_) ?_
    · -- 2
      go_simp
      (with_reducible refine (HA.out _ H0).mono ?_)
      rintro e w1 ⟨kv1, pv1, bv1, cs1, rfl, A1, o1⟩
      obtain ⟨A, c, rfl⟩ := A1.kv
      rw [HN.out] at A1 ⊢
      refine hK.out _ _ trivial (fun _ => ?_)
      clear hK
      try simp only [Act.put, List.setIfInBounds_toArray, List.set_cons_zero, List.set_cons_succ]
      have X1 : XR w1 T v (.agg #[x0, x1, x2, x3, x4]) := XR.off o1 hAT _ _ X0
      have B1 := o1.blk B0 (fun e => by have := (hfr B e).2; omega)
      have O1 := O0.then (o1.mono (fun b h => (hfr b h).1))
      clear o1
      refine wpAnyH_ready (rs := [3]) (by kernel_rfl) (by simp) ?_
      refine AllReadyH.cons (o := { dst := some 7, op := .load TNo (.tmp 3), type := _, pos := _, after := _, guard := none }) rfl (fun K0 hK => ?_) AllReadyH.nil
      have r := B1.cell 0
      have hr : w1.rangeAt B 0 [x0, x1, x2, x3, x4] := fun j u hj => by rw [Nat.zero_add, B1.cell j]; simpa using hj
      clear r
      refine step_ld5 rfl 3 rfl w1 (b := B) (k := 0) rfl hr ?_
      clear hr
      refine hK.out _ _ trivial (fun _ => ?_)
      clear hK
      try simp only [Act.put, List.setIfInBounds_toArray, List.set_cons_zero, List.set_cons_succ]
      refine wpAnyH_ready (rs := [4]) (by kernel_rfl) (by simp) ?_
      refine AllReadyH.cons (o := { dst := some 8, op := .buildSlice 25 1 #[(0, .tmp 7)], type := _, pos := _, after := _, guard := none }) rfl (fun K0 hK => ?_) AllReadyH.nil
      refine step_bs5 rfl 7 rfl w1 (x0 := x0) (x1 := x1) (x2 := x2) (x3 := x3) (x4 := x4) rfl ?_
      refine hK.out _ _ trivial (fun _ => ?_)
      clear hK
      try simp only [Act.put, List.setIfInBounds_toArray, List.set_cons_zero, List.set_cons_succ]
      have Z3 : Blk w1.heap.size (.cells #[x0, x1, x2, x3, x4] TNo (0, 0)) (w1.alloc (.cells #[x0, x1, x2, x3, x4] TNo (0, 0))) := Blk.new _ _
      have hb3 := below_alloc8 w1 (.cells #[x0, x1, x2, x3, x4] TNo (0, 0))
      have H3 := A1.below hb3
      have X3 := XR.below X1 hb3
      have B3 := (Off.of_below hb3).blk B1 (fun h => h)
      have O3 := O1.thenB hb3
      have hN3 : B ≤ w1.heap.size := Nat.le_of_lt B1.lt
      clear hb3
      generalize w1.alloc (.cells #[x0, x1, x2, x3, x4] TNo (0, 0)) = w3 at *
      obtain ⟨M3, hM3⟩ : ∃ M, w1.heap.size = M := ⟨_, rfl⟩
      rw [hM3] at Z3 hN3 ⊢
      exact HM (M3, A, c) _ ⟨pv1, bv1, cs1, H3, Z3, X3, O3⟩
    refine AllReadyH.cons (o := { dst := some 7, op := .load TNo (.tmp 3), type := _, pos := _, after := _, guard := none }) rfl (fun K0 hK => ?_) AllReadyH.nil
    have r := B0.cell 0
    have hr : w0.rangeAt B 0 [x0, x1, x2, x3, x4] := fun j u hj => by rw [Nat.zero_add, B0.cell j]; simpa using hj
    clear r
    refine step_ld5 rfl 3 rfl w0 (b := B) (k := 0) rfl hr ?_
    clear hr
    refine hK.out _ _ trivial (fun _ => ?_)
    clear hK
    try simp only [Act.put, List.setIfInBounds_toArray, List.set_cons_zero, List.set_cons_succ]
    refine wpAnyH_ready (rs := [2, 4]) (by kernel_rfl) (by simp) ?_
    refine AllReadyH.cons (o := { dst := some 6, op := .call { callee := .value (.func 106), args := #[.tmp 5], argTypes := _ }, type := _, pos := _, after := _, guard := none }) rfl (fun K0 hK => ?_) ?_
    · -- 2
      go_simp
      (with_reducible refine (HA.out _ H0).mono ?_)
      rintro e w2 ⟨kv1, pv1, bv1, cs1, rfl, A1, o1⟩
      obtain ⟨A, c, rfl⟩ := A1.kv
      rw [HN.out] at A1 ⊢
      refine hK.out _ _ trivial (fun _ => ?_)
      clear hK
      try simp only [Act.put, List.setIfInBounds_toArray, List.set_cons_zero, List.set_cons_succ]
      have X2 : XR w2 T v (.agg #[x0, x1, x2, x3, x4]) := XR.off o1 hAT _ _ X0
      have B2 := o1.blk B0 (fun e => by have := (hfr B e).2; omega)
      have O2 := O0.then (o1.mono (fun b h => (hfr b h).1))
      clear o1
      refine wpAnyH_ready (rs := [4]) (by kernel_rfl) (by simp) ?_
      refine AllReadyH.cons (o := { dst := some 8, op := .buildSlice 25 1 #[(0, .tmp 7)], type := _, pos := _, after := _, guard := none }) rfl (fun K0 hK => ?_) AllReadyH.nil
      refine step_bs5 rfl 7 rfl w2 (x0 := x0) (x1 := x1) (x2 := x2) (x3 := x3) (x4 := x4) rfl ?_
      refine hK.out _ _ trivial (fun _ => ?_)
      clear hK
      try simp only [Act.put, List.setIfInBounds_toArray, List.set_cons_zero, List.set_cons_succ]
      have Z3 : Blk w2.heap.size (.cells #[x0, x1, x2, x3, x4] TNo (0, 0)) (w2.alloc (.cells #[x0, x1, x2, x3, x4] TNo (0, 0))) := Blk.new _ _
      have hb3 := below_alloc8 w2 (.cells #[x0, x1, x2, x3, x4] TNo (0, 0))
      have H3 := A1.below hb3
      have X3 := XR.below X2 hb3
      have B3 := (Off.of_below hb3).blk B2 (fun h => h)
      have O3 := O2.thenB hb3
      have hN3 : B ≤ w2.heap.size := Nat.le_of_lt B2.lt
      clear hb3
      generalize w2.alloc (.cells #[x0, x1, x2, x3, x4] TNo (0, 0)) = w3 at *
      obtain ⟨M3, hM3⟩ : ∃ M, w2.heap.size = M := ⟨_, rfl⟩
      rw [hM3] at Z3 hN3 ⊢
      exact HM (M3, A, c) _ ⟨pv1, bv1, cs1, H3, Z3, X3, O3⟩
    refine AllReadyH.cons (o := { dst := some 8, op := .buildSlice 25 1 #[(0, .tmp 7)], type := _, pos := _, after := _, guard := none }) rfl (fun K0 hK => ?_) AllReadyH.nil
    refine step_bs5 rfl 7 rfl w0 (x0 := x0) (x1 := x1) (x2 := x2) (x3 := x3) (x4 := x4) rfl ?_
    refine hK.out _ _ trivial (fun _ => ?_)
    clear hK
    try simp only [Act.put, List.setIfInBounds_toArray, List.set_cons_zero, List.set_cons_succ]
    have Z2 : Blk w0.heap.size (.cells #[x0, x1, x2, x3, x4] TNo (0, 0)) (w0.alloc (.cells #[x0, x1, x2, x3, x4] TNo (0, 0))) := Blk.new _ _
    have hb2 := below_alloc8 w0 (.cells #[x0, x1, x2, x3, x4] TNo (0, 0))
    have H2 := H0.below hb2
    have X2 := XR.below X0 hb2
    have B2 := (Off.of_below hb2).blk B0 (fun h => h)
    have O2 := O0.thenB hb2
    have hN2 : B ≤ w0.heap.size := Nat.le_of_lt B0.lt
    clear hb2
    generalize w0.alloc (.cells #[x0, x1, x2, x3, x4] TNo (0, 0)) = w2 at *
    obtain ⟨M2, hM2⟩ : ∃ M, w0.heap.size = M := ⟨_, rfl⟩
    rw [hM2] at Z2 hN2 ⊢
    refine wpAnyH_ready (rs := [2]) (by kernel_rfl) (by simp) ?_
    refine AllReadyH.cons (o := { dst := some 6, op := .call { callee := .value (.func 106), args := #[.tmp 5], argTypes := _ }, type := _, pos := _, after := _, guard := none }) rfl (fun K0 hK => ?_) AllReadyH.nil
    go_simp
    (with_reducible refine (HA.out _ H2).mono ?_)
    rintro e w3 ⟨kv1, pv1, bv1, cs1, rfl, A1, o1⟩
    obtain ⟨A, c, rfl⟩ := A1.kv
    rw [HN.out] at A1 ⊢
    refine hK.out _ _ trivial (fun _ => ?_)
    clear hK
    try simp only [Act.put, List.setIfInBounds_toArray, List.set_cons_zero, List.set_cons_succ]
    have X3 : XR w3 T v (.agg #[x0, x1, x2, x3, x4]) := XR.off o1 hAT _ _ X2
    have B3 := o1.blk B2 (fun e => by have := (hfr B e).2; omega)
    have O3 := O2.then (o1.mono (fun b h => (hfr b h).1))
    have Z3 := o1.blk Z2 (fun e => by have := (hfr _ e).2; omega)
    clear o1
    exact HM (M2, A, c) _ ⟨pv1, bv1, cs1, A1, Z3, X3, O3⟩
  case rest =>
    obtain ⟨H, A, c⟩ := p
    obtain ⟨pv1, bv1, cs1, C1, Z1, X1, O1⟩ := hW
    simp only at C1 Z1
    clear H0 O0 X0 B0 hBl w0
    obtain ⟨i0, hi, hz0, hz1, hz2⟩ := info_parts Tryz.info8N
    refine wpAnyH_ready (rs := [5]) (by kernel_rfl) (by simp) ?_
    refine AllReadyH.cons (o := { dst := some 9, op := .call { callee := .builtin .append, args := #[.tmp 6, .tmp 8], argTypes := #[25, 25] }, type := _, pos := _, after := _, guard := none }) rfl (fun K0 hK => ?_) AllReadyH.nil
    refine step_append_lies W rfl (.tmp 6) (.tmp 8) 25 rfl C TNo i0 _ 5 96 Tryz.underlying25 hi hz0 hz1 hz2 rfl (by decide) (.slice A N c) N cs1 rfl (by have := C1.kids; rw [HN.out] at this; exact this) ⟨H, 0, none⟩ 1 1 [x0, x1, x2, x3, x4] rfl rfl (World.news_of_block Z1) (fun u hu => of_all5 hone u hu) (by decide) (by unfold maxLen; omega) (by omega) (Nat.le_of_lt C1.blk.lt) W.heap.size rfl ?_
    intro g cap w2 L2 gr2 at2 lt2
    have o2 := Off.of_grown gr2
    refine hK.out _ _ trivial (fun _ => ?_)
    clear hK
    try simp only [Act.put, List.setIfInBounds_toArray, List.set_cons_zero, List.set_cons_succ]
    have hkC : (Value.slice A N c).ownBlock ≠ some C := own_apartB C1.kids C1.blk (by decide)
    have B2 : Blk C (CoB (.slice A N c) pv1 bv1) w2 := o2.blk C1.blk (fun e => hkC e)
    have R2 : XRs w2 T (allX ks t ++ [v]) (cs1 ++ [x0, x1, x2, x3, x4]) := XRs.snoc (XR.off o2 (fun b hb e => (C1.apart b hb).2.2.1 e) _ _ X1) _ _ (XRs.off o2 (fun b hb e => (C1.apart b hb).2.2.1 e) _ _ C1.read)
    have hat : (Value.slice A N c).ownBlock = some g ∨ W.heap.size ≤ g := at2.imp id (fun h => by omega)
    have hbv : w2.ownsRow C TBy 1 bv1 0 [] := own_off C1.buf o2 (fun b hb e => own_apart C1.kids C1.buf (by decide) e hb)
    have hgC : g ≠ C := fun e => by
      rcases hat with h | h
      · exact hkC (by rw [h, e])
      · have := C1.blk.lt; omega
    have hgb : bv1.ownBlock ≠ some g := fun e => by
      rcases hat with h | h
      · exact own_apart C1.kids C1.buf (by decide) h e
      · have := (World.ownsRow.lt C1.buf g e).2; omega
    have hgT : ∀ b, T b → b ≠ g := fun b hb e => by
      subst e
      rcases hat with h | h
      · exact (C1.apart b hb).2.2.1 h
      · have := (C1.apart b hb).2.1; omega
    have O2 : Off (fun b => C ≤ b) w w2 := O1.then (o2.mono (fun b h => (World.ownsRow.lt C1.kids b h).1))
    have hs2 : W.heap.size ≤ w2.heap.size := o2.size
    refine wpAnyH_take (i := 6) (v := .pointer (some ⟨C, 0, none⟩)) rfl (by kernel_rfl) (by kernel_rfl) (by kernel_rfl) (fun _ _ _ h => h) (Or.inl ⟨by rfl, by intro w hSw; clear hSw; go_simp⟩) trivial ?_
    change wpAnyH _ _ _ _ _ _ _ (Act.put _ (some 10) _) _
    try simp only [Act.put, List.setIfInBounds_toArray, List.set_cons_zero, List.set_cons_succ]
    refine wpAnyH_take (i := 7) (v := .pointer (some ⟨C, 0, none⟩)) rfl (by kernel_rfl) (by kernel_rfl) (by kernel_rfl) (fun _ _ _ h => h) (Or.inl ⟨by rfl, by intro w hSw; clear hSw; go_simp⟩) trivial ?_
    change wpAnyH _ _ _ _ _ _ _ (Act.put _ (some 11) _) _
    try simp only [Act.put, List.setIfInBounds_toArray, List.set_cons_zero, List.set_cons_succ]
    refine wpAnyH_ready (rs := [8]) (by kernel_rfl) (by simp) ?_
    refine AllReadyH.cons (o := { dst := none, op := .store 25 (.tmp 11) (.tmp 9), type := _, pos := _, after := _, guard := none }) rfl (fun K0 hK => ?_) AllReadyH.nil
    refine step_stS rfl 11 9 rfl rfl w2 (b := C) (k := 0) (v := .slice (some ⟨g, 0, none⟩) (N + 1) cap) rfl rfl (B2.cell 0) (B2.free 0) ⟨_, _, _, rfl⟩ ?_
    have o3 := off_set8 w2 C 0 (.slice (some ⟨g, 0, none⟩) (N + 1) cap)
    have L3 := own_off L2 o3 (fun b hb e => by have : g = b := Option.some.inj hb; exact hgC (by rw [this, e]))
    have B3 : Blk C (CoB (.slice (some ⟨g, 0, none⟩) (N + 1) cap) pv1 bv1) (w2.setCell ⟨C, 0, none⟩ (.slice (some ⟨g, 0, none⟩) (N + 1) cap)) := by have := B2.set 0 (.slice (some ⟨g, 0, none⟩) (N + 1) cap); simpa using this
    have R3 := XRs.off o3 (fun b hb e => by have := (C1.apart b hb).1; omega) _ _ R2
    have V3 := own_off hbv o3 (fun b hb e => own_apartB hbv B2 (by decide) (by rw [hb, e]))
    have O3 := O2.then (o3.mono (fun b h => Nat.le_of_eq h.symm))
    have hs3 := o3.size
    refine hK.out _ _ trivial (fun _ => ?_)
    clear hK
    generalize w2.setCell ⟨C, 0, none⟩ (.slice (some ⟨g, 0, none⟩) (N + 1) cap) = w3 at *
    refine wpAnyH_done (by kernel_rfl) ?_ _
    go_wp2
    go_end0
    exact ⟨_, _, _, _, rfl, ⟨B3, C1.addr, by rw [List.length_append, List.length_singleton, HN.out]; exact L3, R3, V3, fun b hb => by have h1 := C1.apart b hb; exact ⟨h1.1, by omega, fun e => hgT b hb (Option.some.inj e).symm, h1.2.2.2⟩⟩, O3⟩
end Go.Proofs.YtklcjimmbkpbdaaGreatDoor
