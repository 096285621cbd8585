/-
  Of the proofs of layer 8 (elements of XML): the parts XAk XAl XAm XAn XAp XAq. No conditions.
-/
import Derived.Test.YtklcjimmbkpbdaaGreatDoorZ17
import Derived.Deep.RegionLaw
import Derived.Deep.RegionHeld3
import Derived.Deep.MidRow
import Derived.Test.YtklcjimmbkpbdaaGreatDoorZ02
namespace Go.Proofs.YtklcjimmbkpbdaaGreatDoor
open Go.RowKit
open Go.Lib
theorem off_sets8 (b : Nat) : ∀ (vs : List Value) (o : Nat) (w : World), Off (fun k => k = b) w (w.setCells b o vs) := by
 intro vs
 induction vs with
 | nil => intro o w; exact Off.refl _ _
 | cons v vs ih =>
  intro o w
  exact (off_set8 w b o v).then (ih (o + 1) (w.setCell ⟨b, o, none⟩ v))
abbrev zN5 : List Value := [.string ⟨#[]⟩, .string ⟨#[]⟩, .slice none 0 0, .slice none 0 0, .string ⟨#[]⟩]
theorem Tryz.info8N : (Tryz.prog.info? TNo).map (fun i => (i.zero, i.size, i.bytes)) = some (some (.agg #[.string ⟨#[]⟩, .string ⟨#[]⟩, .slice none 0 0, .slice none 0 0, .string ⟨#[]⟩]), 5, 96) := by kernel_rfl
theorem own5_there {w : World} {B g cap n : Nat} {cs : List Value} (h : w.ownsRow B TNo 5 (.slice (some ⟨g, 0, none⟩) (n + 1) cap) (n + 1) cs) : w.there g (n * 5) 5 := fun j hj => by
 have hl : cs.length = (n + 1) * 5 := h.1
 refine ⟨?_, World.ownsRow.frozenAt h _⟩
 rw [World.ownsRow.cellAt h (n * 5 + j) (by omega), List.getElem?_eq_getElem (by omega)]
 rfl
theorem own5_set {w : World} {B g cap n : Nat} {cs : List Value} (hn : cs.length = n * 5) {z0 z1 z2 z3 z4 x0 x1 x2 x3 x4 : Value} (h : w.ownsRow B TNo 5 (.slice (some ⟨g, 0, none⟩) (n + 1) cap) (n + 1) (cs ++ [z0, z1, z2, z3, z4])) :
    (w.setCells g (n * 5) [x0, x1, x2, x3, x4]).ownsRow B TNo 5 (.slice (some ⟨g, 0, none⟩) (n + 1) cap) (n + 1) (cs ++ [x0, x1, x2, x3, x4]) := by
 have h0 := (World.ownsRow.stored h (n * 5) x0).1
 have h1 := (World.ownsRow.stored h0 (n * 5 + 1) x1).1
 have h2 := (World.ownsRow.stored h1 (n * 5 + 1 + 1) x2).1
 have h3 := (World.ownsRow.stored h2 (n * 5 + 1 + 1 + 1) x3).1
 have h4 := (World.ownsRow.stored h3 (n * 5 + 1 + 1 + 1 + 1) x4).1
 have e : (((((cs ++ [z0, z1, z2, z3, z4]).set (n * 5) x0).set (n * 5 + 1) x1).set (n * 5 + 1 + 1) x2).set (n * 5 + 1 + 1 + 1) x3).set (n * 5 + 1 + 1 + 1 + 1) x4 = cs ++ [x0, x1, x2, x3, x4] := by
  rw [← hn]
  rw [List.set_append_right _ _ (by omega), List.set_append_right _ _ (by omega), List.set_append_right _ _ (by omega), List.set_append_right _ _ (by omega), List.set_append_right _ _ (by omega)]
  congr 1
  rw [Nat.sub_self, show cs.length + 1 - cs.length = 1 by omega, show cs.length + 1 + 1 - cs.length = 2 by omega, show cs.length + 1 + 1 + 1 - cs.length = 3 by omega, show cs.length + 1 + 1 + 1 + 1 - cs.length = 4 by omega]
  rfl
 rw [e] at h4
 exact h4
theorem all5 {x0 x1 x2 x3 x4 : Value} (h0 : x0.oneCell' = true) (h1 : x1.oneCell' = true) (h2 : x2.oneCell' = true) (h3 : x3.oneCell' = true) (h4 : x4.oneCell' = true) : (#[x0, x1, x2, x3, x4] : Array Value).all (·.oneCell') = true := by
 rw [← Array.all_toList]
 show ([x0, x1, x2, x3, x4] : List Value).all _ = true
 simp only [List.all_cons, List.all_nil, h0, h1, h2, h3, h4, Bool.and_self]
section
variable {P : Program} {ops : Array Oper} {a : Act} {o : Oper} {K : Act → World → Prop} {Q : Exit → Act → World → Prop} {E : Prop}
theorem step_stS (hgd : o.guard = none) (t u : Nat) (ho : o.op = .store 25 (.tmp t) (.tmp u)) (hd : o.dst = none) (w : World) {b k : Nat} {v old : Value} (hx : a.eval (.tmp t) = .pointer (some ⟨b, k, none⟩)) (hy : a.eval (.tmp u) = v) (hc : w.cell? ⟨b, k, none⟩ = some old) (hf : w.frozen? ⟨b, k, none⟩ = false) (hs : ∃ A n c, v = .slice A n c)
    (h : K a (w.setCell ⟨b, k, none⟩ v)) : if Region.wanted o (yielded ops a.tmps) = true then Oper.wp Tryz.prog o a w K Q else E := by
 have hw : Region.wanted o (yielded ops a.tmps) = true := by simp [Region.wanted, hgd]
 rw [if_pos hw]
 obtain ⟨A, n, c, rfl⟩ := hs
 have e0 : (⟨b, k, none⟩ : Addr).add 0 = ⟨b, k, none⟩ := by simp [Addr.add]
 have hst := run_store Tryz.prog w ⟨b, k, none⟩ (.slice A n c) .plain rfl
 rw [hc] at hst
 simp only [hf] at hst
 have hT : (Go.sizeOf 25).run Tryz.prog w = .ok 1 w := by
  have h : (Tryz.prog.info? 25).map (fun i => i.size) = some 1 := by kernel_rfl
  cases hi : Tryz.prog.info? 25 with
  | none => rw [hi] at h; cases h
  | some i => rw [hi] at h; simp at h; simp [sizeOf, typeInfo, hi, h]
 have hr : (Instr.storeAt 25 (.pointer (some ⟨b, k, none⟩)) (.slice A n c)).run Tryz.prog w = .ok () (w.setCell ⟨b, k, none⟩ (.slice A n c)) := by
  have hcl : (Value.slice A n c).cells = #[.slice A n c] := rfl
  simp [Instr.storeAt, Instr.sureAddr, storeVar, hT, hcl, storeCells, e0, hst]
 unfold Oper.wp execOp
 simp only [ho, hx, hy, Sem.run_bind, Sem.run_pure, Result.andThen_ok, hr]
 show K (a.put o.dst _) _
 rw [hd]
 exact h
theorem step_st5 (hgd : o.guard = none) (t u : Nat) (ho : o.op = .store TNo (.tmp t) (.tmp u)) (hd : o.dst = none) (w : World) {b k : Nat} {x0 x1 x2 x3 x4 : Value} (hx : a.eval (.tmp t) = .pointer (some ⟨b, k, none⟩)) (hy : a.eval (.tmp u) = .agg #[x0, x1, x2, x3, x4]) (ht : w.there b k 5) (h1 : (#[x0, x1, x2, x3, x4] : Array Value).all (·.oneCell') = true)
    (h : K a (w.setCells b k [x0, x1, x2, x3, x4])) : if Region.wanted o (yielded ops a.tmps) = true then Oper.wp Tryz.prog o a w K Q else E := by
 have hw : Region.wanted o (yielded ops a.tmps) = true := by simp [Region.wanted, hgd]
 rw [if_pos hw]
 refine wp_store_mid TNo (.tmp t) (.tmp u) ho b k #[x0, x1, x2, x3, x4] hx hy ht (by kernel_rfl) h1 ?_
 rw [hd]
 exact h
theorem of_all5 {x0 x1 x2 x3 x4 : Value} (h : (#[x0, x1, x2, x3, x4] : Array Value).all (·.oneCell') = true) : ∀ u ∈ [x0, x1, x2, x3, x4], u.oneCell' = true := by
 rw [← Array.all_toList] at h
 exact List.all_eq_true.1 h
theorem step_ld5 (hgd : o.guard = none) (t : Nat) (ho : o.op = .load TNo (.tmp t)) (w : World) {b k : Nat} {x0 x1 x2 x3 x4 : Value} (hx : a.eval (.tmp t) = .pointer (some ⟨b, k, none⟩)) (hr : w.rangeAt b k [x0, x1, x2, x3, x4])
    (h : K (a.put o.dst (.agg #[x0, x1, x2, x3, x4])) w) : if Region.wanted o (yielded ops a.tmps) = true then Oper.wp Tryz.prog o a w K Q else E := by
 have hw : Region.wanted o (yielded ops a.tmps) = true := by simp [Region.wanted, hgd]
 rw [if_pos hw]
 unfold Oper.wp
 have run : (execOp a.eval o).run Tryz.prog w = .ok (.value (.agg #[x0, x1, x2, x3, x4])) w := by
  clear h hw
  unfold execOp
  rw [ho]
  generalize a.eval = ev at *
  have := run_loadAt_mid (P := Tryz.prog) w b k TNo [x0, x1, x2, x3, x4] _ hr Tryz.underlying27 rfl (by kernel_rfl)
  simp [hx, this]
 rw [run]
 exact h
theorem step_bs5 (hgd : o.guard = none) (t : Nat) (ho : o.op = .buildSlice 25 1 #[(0, .tmp t)]) (w : World) {x0 x1 x2 x3 x4 : Value} (hx : a.eval (.tmp t) = .agg #[x0, x1, x2, x3, x4])
    (h : K (a.put o.dst (.slice (some ⟨w.heap.size, 0, none⟩) 1 1)) (w.alloc (.cells #[x0, x1, x2, x3, x4] TNo))) : if Region.wanted o (yielded ops a.tmps) = true then Oper.wp Tryz.prog o a w K Q else E := by
 have hw : Region.wanted o (yielded ops a.tmps) = true := by simp [Region.wanted, hgd]
 rw [if_pos hw]
 unfold Oper.wp
 have run : (execOp a.eval o).run Tryz.prog w = .ok (.value (.slice (some ⟨w.heap.size, 0, none⟩) 1 1)) (w.alloc (.cells #[x0, x1, x2, x3, x4] TNo)) := by
  clear h hw
  unfold execOp
  rw [ho]
  generalize a.eval = ev at *
  go_simp
 rw [run]
 exact h
theorem orders_meet {md : Region.Mode} {S : World → Prop} {f f0 : Nat} {l l0 : Array Bool} {a0 : Act} {w0 : World} (R : World → Prop) (h : ∀ W, R W → wpAnyH P md ops Q S f l a W)
    (k : (∀ W, R W → wpAnyH P md ops Q S f l a W) → wpAnyH P md ops Q S f0 l0 a0 w0) : wpAnyH P md ops Q S f0 l0 a0 w0 := k h
theorem orders_meetP {α : Type} {md : Region.Mode} {S : World → Prop} {f f0 : Nat} {l l0 : Array Bool} {a0 : Act} {w0 : World} (a : α → Act) (R : α → World → Prop) (h : ∀ p W, R p W → wpAnyH P md ops Q S f l (a p) W)
    (k : (∀ p W, R p W → wpAnyH P md ops Q S f l (a p) W) → wpAnyH P md ops Q S f0 l0 a0 w0) : wpAnyH P md ops Q S f0 l0 a0 w0 := k h
end
def AllF (C : Nat) (kv bv : Value) (b : Nat) : Prop := b = C ∨ kv.ownBlock = some b ∨ bv.ownBlock = some b
structure AllA (C : Nat) (T : Nat → Prop) (kv pv bv : Value) (ks : List XV) (cs : List Value) (w W : World) : Prop where
 blk : Blk C (CoB kv pv bv) W
 kids : W.ownsRow C TNo 5 kv ks.length cs
 read : XRs W T ks cs
 off : Off (fun b => bv.ownBlock = some b) w W
theorem AllA.below {C : Nat} {T : Nat → Prop} {kv pv bv : Value} {ks : List XV} {cs : List Value} {w W W' : World} (h : AllA C T kv pv bv ks cs w W) (hb : Below W.heap.size W W') : AllA C T kv pv bv ks cs w W' :=
 ⟨(Off.of_below hb).blk h.blk (fun h => h), own_off h.kids (Off.of_below hb) (fun _ _ h => h), XRs.off (Off.of_below hb) (fun _ _ h => h) _ _ h.read, h.off.thenB hb⟩
theorem CSt.below {C : Nat} {T : Nat → Prop} {kv pv bv : Value} {ks : List XV} {cs : List Value} {t : Bt} {W W' : World} (h : CSt C T kv pv bv ks cs t W) (hb : Below W.heap.size W W') : CSt C T kv pv bv ks cs t W' :=
 h.off (Off.of_below hb) (fun _ h => h.elim)
theorem CSt.taken {C : Nat} {T : Nat → Prop} {kv pv bv : Value} {ks : List XV} {cs : List Value} {t : Bt} {w W W' : World} (h : CSt C T kv pv bv ks cs t W) (hw : Off (fun b => bv.ownBlock = some b) w W) (ho : Off (fun b => bv.ownBlock = some b) W W') : AllA C T kv pv bv ks cs w W' :=
 ⟨ho.blk h.blk (fun hb => own_apartB h.buf h.blk (by decide) hb), own_off h.kids ho (fun b hb e => own_apart h.kids h.buf (by decide) hb e), XRs.off ho (fun b hb e => (h.apart b hb).2.2.2 e) _ _ h.read, hw.then ho⟩
theorem CSt.pushed {C g cap K : Nat} {T : Nat → Prop} {kv pv bv : Value} {ks : List XV} {v : XV} {cs' : List Value} {w W : World} (hK : K = ks.length) (hb : Blk C (CoB (.slice (some ⟨g, 0, none⟩) (K + 1) cap) pv (.slice none 0 0)) W) (hp : pv = .pointer none ∨ pv = .pointer (some ⟨C, 1, none⟩))
    (ho : W.ownsRow C TNo 5 (.slice (some ⟨g, 0, none⟩) (K + 1) cap) (K + 1) cs') (hr : XRs W T (ks ++ [v]) cs') (hT : ∀ b, T b → C < b ∧ b < w.heap.size ∧ kv.ownBlock ≠ some b ∧ bv.ownBlock ≠ some b) (hg : kv.ownBlock = some g ∨ w.heap.size ≤ g) (hs : w.heap.size ≤ W.heap.size) :
    CSt C T (.slice (some ⟨g, 0, none⟩) (K + 1) cap) pv (.slice none 0 0) (ks ++ [v]) cs' [] W := by
 refine ⟨hb, hp, ?_, hr, World.ownsRow_nil _ _ _ _, fun b hb => ?_⟩
 ·rw [List.length_append, List.length_singleton, ← hK]; exact ho
 ·have h := hT b hb
  refine ⟨h.1, by omega, fun e => ?_, fun e => by cases e⟩
  have e : g = b := Option.some.inj e
  subst e
  rcases hg with hg | hg
  ·exact h.2.2.1 hg
  ·omega
theorem allX_text {ks : List XV} {t : Bt} (h : t ≠ []) : allX ks t = ks ++ [textX t] := by unfold allX; rw [if_neg h]
theorem XR.agg5 {w : World} {T : Nat → Prop} {v : XV} {x : Value} (h : XR w T v x) : ∃ x0 x1 x2 x3 x4, x = .agg #[x0, x1, x2, x3, x4] ∧ (#[x0, x1, x2, x3, x4] : Array Value).all (·.oneCell') = true := by
 obtain ⟨aA, ac, kA, kc, e⟩ := xr_one h
 exact ⟨_, _, _, _, _, e, all5 rfl rfl rfl rfl rfl⟩
set_option maxRecDepth 100000 in
set_option maxHeartbeats 40000000 in
theorem all_text {C : Nat} {T : Nat → Prop} {kv pv bv : Value} {ks : List XV} {cs : List Value} {t : Bt} {w : World} (h : CSt C T kv pv bv ks cs t w) (ht : t ≠ []) (hk : ks.length ≤ 1000000) :
    Calls Tryz.prog 106 #[.pointer (some ⟨C, 0, none⟩)] w fun e w' => ∃ kv' cs', e = .returned kv' ∧ CSt C T kv' (.pointer none) (.slice none 0 0) (allX ks t) cs' [] w' ∧ Off (AllF C kv bv) w w' := by
 have HL := hid (lenC_any h)
 have hl0 : 0 < t.length := by cases t with | nil => exact absurd rfl ht | cons => simp
 obtain ⟨L, hL⟩ : ∃ L, t.length = L := ⟨_, rfl⟩
 rw [hL] at HL hl0
 have H := hid h
 obtain ⟨kA, kc, hkv⟩ := h.kv
 obtain ⟨K, hK⟩ : ∃ K, ks.length = K := ⟨_, rfl⟩
 rw [hK] at hkv hk
 have HK := hid hK
 subst hkv
 have HT := hid ht
 have hCl := h.blk.lt
 have hkC : (Value.slice kA K kc).ownBlock ≠ some C := own_apartB h.kids h.blk (by decide)
 have hbl : ∀ b, bv.ownBlock = some b → b < w.heap.size := fun b hb => (World.ownsRow.lt h.buf b hb).2
 have hkCC : ∀ b, (Value.slice kA K kc).ownBlock = some b → C ≤ b := fun b hb => (World.ownsRow.lt h.kids b hb).1
 have HS : Hid (∀ W, CSt C T (.slice kA K kc) pv bv ks cs t W → Calls Tryz.prog 38 #[.pointer (some ⟨C, 1, none⟩)] W (fun e w' => e = .returned (.string (bs t)) ∧ w'.heap.size = W.heap.size ∧ Off (fun b => bv.ownBlock = some b) W w')) := hid (fun W hW => strC_any hW HT.out)
 have HR : Hid (∀ W kv pv bv, Blk C (CoB kv pv bv) W → Calls Tryz.prog 126 #[.pointer (some ⟨C, 1, none⟩)] W (fun e w' => e = .returned (.tuple #[]) ∧ Blk C (CoB kv (.pointer none) (.slice none 0 0)) w' ∧ Off (fun b => b = C) W w')) := hid (fun W kv pv bv hW => resetC_any hW)
 clear h hK hL ht
 go_enter Tryz.func106, Tryz.ntmps106
 go_wp2_with fail
 refine HL.out.mono ?_
 rintro e w1 ⟨rfl, rfl⟩
 go_wp2
 obtain ⟨N0, hN0⟩ : ∃ N, w.heap.size = N := ⟨_, rfl⟩
 refine wp_region_held_drew (S := fun _ => True) (by kernel_rfl) trivial (fun _ => ?_)
 have H0 : CSt C T (.slice kA K kc) pv bv ks cs t w.drew := H.out.off (F := fun _ => False) ⟨rfl, rfl, rfl, Nat.le_refl _, fun _ _ _ => rfl⟩ (fun _ h => h.elim)
 have O0 : Off (fun b => bv.ownBlock = some b) w w.drew := ⟨rfl, rfl, rfl, Nat.le_refl _, fun _ _ _ => rfl⟩
 have s0 : w.drew.heap.size = N0 := hN0
 generalize w.drew = w0 at *
 refine wpAnyH_take (i := 0) (v := .pointer (some ⟨C, 0, none⟩)) rfl (by kernel_rfl) (by kernel_rfl) (by kernel_rfl) (fun _ _ _ h => h) (Or.inl ⟨by rfl, by intro w hSw; clear hSw; go_simp⟩) trivial ?_
 change wpAnyH _ _ _ _ _ _ _ (Act.put _ (some 8) _) _
 try simp only [Act.put, zA8, zB8, zC8]
 refine wpAnyH_take (i := 1) (v := .pointer (some ⟨C, 0, none⟩)) rfl (by kernel_rfl) (by kernel_rfl) (by kernel_rfl) (fun _ _ _ h => h) (Or.inl ⟨by rfl, by intro w hSw; clear hSw; go_simp⟩) trivial ?_
 change wpAnyH _ _ _ _ _ _ _ (Act.put _ (some 9) _) _
 try simp only [Act.put, zA8, zB8, zC8]
 refine wpAnyH_take (i := 2) (v := .pointer (some ⟨C, 0, none⟩)) rfl (by kernel_rfl) (by kernel_rfl) (by kernel_rfl) (fun _ _ _ h => h) (Or.inl ⟨by rfl, by intro w hSw; clear hSw; go_simp⟩) trivial ?_
 change wpAnyH _ _ _ _ _ _ _ (Act.put _ (some 10) _) _
 try simp only [Act.put, zA8, zB8, zC8]
 refine wpAnyH_take (i := 4) (v := .pointer (some ⟨C, 0, none⟩)) rfl (by kernel_rfl) (by kernel_rfl) (by kernel_rfl) (fun _ _ _ h => h) (Or.inl ⟨by rfl, by intro w hSw; clear hSw; go_simp⟩) trivial ?_
 change wpAnyH _ _ _ _ _ _ _ (Act.put _ (some 12) _) _
 try simp only [Act.put, zA8, zB8, zC8]
 refine wpAnyH_take (i := 5) (v := .pointer (some ⟨C, 0, none⟩)) rfl (by kernel_rfl) (by kernel_rfl) (by kernel_rfl) (fun _ _ _ h => h) (Or.inl ⟨by rfl, by intro w hSw; clear hSw; go_simp⟩) trivial ?_
 change wpAnyH _ _ _ _ _ _ _ (Act.put _ (some 13) _) _
 try simp only [Act.put, zA8, zB8, zC8]
 refine wpAnyH_take (i := 6) (v := .pointer (some ⟨C, 1, none⟩)) rfl (by kernel_rfl) (by kernel_rfl) (by kernel_rfl) (fun _ _ _ h => h) (Or.inl ⟨by rfl, by intro w hSw; clear hSw; go_simp⟩) trivial ?_
 change wpAnyH _ _ _ _ _ _ _ (Act.put _ (some 14) _) _
 try simp only [Act.put, zA8, zB8, zC8]
 refine orders_meet (f := 6) (l := #[true, true, true, true, true, true, true, true, true, true, true, false, false, false, false, false, false]) (a := { tmps := #[.pointer (some ⟨C, 0, none⟩), undef, .slice none 0 0, .pointer (some ⟨C, 0, none⟩), .pointer (some ⟨C, 0, none⟩), .pointer (some ⟨C, 1, none⟩), .int .i64 (L : Int), .bool true, .pointer (some ⟨C, 0, none⟩), .pointer (some ⟨C, 0, none⟩), .pointer (some ⟨C, 0, none⟩), .slice kA K kc, .pointer (some ⟨C, 0, none⟩), .pointer (some ⟨C, 0, none⟩), .pointer (some ⟨C, 1, none⟩), .string (bs t), .agg #[.string ⟨#[]⟩, .string ⟨#[]⟩, .slice none 0 0, .slice none 0 0, .string (bs t)], .int .i64 (K : Int), .slice (some ⟨N0, 0, none⟩) 1 1, undef, undef, undef, undef, undef, undef, undef, undef, undef, undef, undef, undef], defers := [] }) (fun W => AllA C T (.slice kA K kc) pv bv ks cs w W ∧ Blk N0 ZN W ∧ W.heap.size = N0 + 1) (fun W hW => ?rest) (fun HM => ?here)
 case here =>
  refine wpAnyH_ready (rs := [3, 7, 10]) (by kernel_rfl) (by simp) ?_
  refine AllReadyH.cons (o := { dst := some 11, op := .load 25 (.tmp 10), type := _, pos := _, after := _, guard := none }) rfl (fun K0 hK => ?_) ?_
  ·-- 3
   have c0 : w0.cell? ⟨C, 0, none⟩ = some (.slice kA K kc) := H0.blk.cell 0
   go_simp
   refine hK.out _ _ trivial (fun _ => ?_)
   clear hK c0
   try simp only [Act.put, zA8, zB8, zC8]
   refine wpAnyH_take (i := 9) (v := .int .i64 (K : Int)) rfl (by kernel_rfl) (by kernel_rfl) (by kernel_rfl) (fun _ _ _ h => h) (Or.inl ⟨by rfl, by intro w hSw; clear hSw; go_simp⟩) trivial ?_
   change wpAnyH _ _ _ _ _ _ _ (Act.put _ (some 17) _) _
   try simp only [Act.put, zA8, zB8, zC8]
   refine wpAnyH_ready (rs := [7, 10]) (by kernel_rfl) (by simp) ?_
   refine AllReadyH.cons (o := { dst := some 15, op := .call { callee := .value (.func 38), args := #[.tmp 14], argTypes := _ }, type := _, pos := _, after := _, guard := none }) rfl (fun K0 hK => ?_) ?_
   ·-- 7
    go_simp
    (with_reducible refine (HS.out _ H0).mono ?_)
    rintro e w2 ⟨rfl, hsz, ho⟩
    refine hK.out _ _ trivial (fun _ => ?_)
    clear hK
    try simp only [Act.put, zA8, zB8, zC8]
    have A2 := H0.taken O0 ho
    have s2 := hsz.trans s0
    clear hsz ho
    refine wpAnyH_take (i := 8) (v := .agg #[.string ⟨#[]⟩, .string ⟨#[]⟩, .slice none 0 0, .slice none 0 0, .string (bs t)]) rfl (by kernel_rfl) (by kernel_rfl) (by kernel_rfl) (fun _ _ _ h => h) (Or.inl ⟨by rfl, by intro w hSw; clear hSw; go_simp⟩) trivial ?_
    change wpAnyH _ _ _ _ _ _ _ (Act.put _ (some 16) _) _
    try simp only [Act.put, zA8, zB8, zC8]
    refine wpAnyH_ready (rs := [10]) (by kernel_rfl) (by simp) ?_
    refine AllReadyH.cons (o := { dst := some 18, op := .buildSlice 25 1 #[(0, .const (.agg #[.string ⟨#[]⟩, .string ⟨#[]⟩, .slice none 0 0, .slice none 0 0, .string ⟨#[]⟩]))], type := _, pos := _, after := _, guard := none }) rfl (fun K0 hK => ?_) AllReadyH.nil
    go_simp
    refine hK.out _ _ trivial (fun _ => ?_)
    clear hK
    try simp only [Act.put, zA8, zB8, zC8]
    have A3 := A2.below (below_alloc8 w2 ZN)
    have Z3 : Blk N0 ZN (w2.alloc ZN) := by have := Blk.new ZN w2; rwa [s2] at this
    have s3 : (w2.alloc ZN).heap.size = N0 + 1 := by simp [s2]
    generalize w2.alloc ZN = w3 at *
    exact HM _ ⟨A3, Z3, s3⟩
   refine AllReadyH.cons (o := { dst := some 18, op := .buildSlice 25 1 #[(0, .const (.agg #[.string ⟨#[]⟩, .string ⟨#[]⟩, .slice none 0 0, .slice none 0 0, .string ⟨#[]⟩]))], type := _, pos := _, after := _, guard := none }) rfl (fun K0 hK => ?_) AllReadyH.nil
   go_simp
   refine hK.out _ _ trivial (fun _ => ?_)
   clear hK
   try simp only [Act.put, zA8, zB8, zC8]
   have H2 := H0.below (below_alloc8 w0 ZN)
   have Z2 : Blk N0 ZN (w0.alloc ZN) := by have := Blk.new ZN w0; rwa [s0] at this
   have s2 : (w0.alloc ZN).heap.size = N0 + 1 := by simp [s0]
   have O2 := O0.thenB (below_alloc8 w0 ZN)
   generalize w0.alloc ZN = w2 at *
   refine wpAnyH_ready (rs := [7]) (by kernel_rfl) (by simp) ?_
   refine AllReadyH.cons (o := { dst := some 15, op := .call { callee := .value (.func 38), args := #[.tmp 14], argTypes := _ }, type := _, pos := _, after := _, guard := none }) rfl (fun K0 hK => ?_) AllReadyH.nil
   go_simp
   (with_reducible refine (HS.out _ H2).mono ?_)
   rintro e w3 ⟨rfl, hsz, ho⟩
   refine hK.out _ _ trivial (fun _ => ?_)
   clear hK
   try simp only [Act.put, zA8, zB8, zC8]
   have A3 := H2.taken O2 ho
   have s3 := hsz.trans s2
   have Z3 : Blk N0 ZN w3 := ho.blk Z2 (fun e => by have := hbl _ e; omega)
   clear hsz ho
   refine wpAnyH_take (i := 8) (v := .agg #[.string ⟨#[]⟩, .string ⟨#[]⟩, .slice none 0 0, .slice none 0 0, .string (bs t)]) rfl (by kernel_rfl) (by kernel_rfl) (by kernel_rfl) (fun _ _ _ h => h) (Or.inl ⟨by rfl, by intro w hSw; clear hSw; go_simp⟩) trivial ?_
   change wpAnyH _ _ _ _ _ _ _ (Act.put _ (some 16) _) _
   try simp only [Act.put, zA8, zB8, zC8]
   exact HM _ ⟨A3, Z3, s3⟩
  refine AllReadyH.cons (o := { dst := some 15, op := .call { callee := .value (.func 38), args := #[.tmp 14], argTypes := _ }, type := _, pos := _, after := _, guard := none }) rfl (fun K0 hK => ?_) ?_
  ·-- 7
   go_simp
   (with_reducible refine (HS.out _ H0).mono ?_)
   rintro e w1 ⟨rfl, hsz, ho⟩
   refine hK.out _ _ trivial (fun _ => ?_)
   clear hK
   try simp only [Act.put, zA8, zB8, zC8]
   have A1 := H0.taken O0 ho
   have s1 := hsz.trans s0
   clear hsz ho
   refine wpAnyH_take (i := 8) (v := .agg #[.string ⟨#[]⟩, .string ⟨#[]⟩, .slice none 0 0, .slice none 0 0, .string (bs t)]) rfl (by kernel_rfl) (by kernel_rfl) (by kernel_rfl) (fun _ _ _ h => h) (Or.inl ⟨by rfl, by intro w hSw; clear hSw; go_simp⟩) trivial ?_
   change wpAnyH _ _ _ _ _ _ _ (Act.put _ (some 16) _) _
   try simp only [Act.put, zA8, zB8, zC8]
   refine wpAnyH_ready (rs := [3, 10]) (by kernel_rfl) (by simp) ?_
   refine AllReadyH.cons (o := { dst := some 11, op := .load 25 (.tmp 10), type := _, pos := _, after := _, guard := none }) rfl (fun K0 hK => ?_) ?_
   ·-- 3
    have c0 : w1.cell? ⟨C, 0, none⟩ = some (.slice kA K kc) := A1.blk.cell 0
    go_simp
    refine hK.out _ _ trivial (fun _ => ?_)
    clear hK c0
    try simp only [Act.put, zA8, zB8, zC8]
    refine wpAnyH_take (i := 9) (v := .int .i64 (K : Int)) rfl (by kernel_rfl) (by kernel_rfl) (by kernel_rfl) (fun _ _ _ h => h) (Or.inl ⟨by rfl, by intro w hSw; clear hSw; go_simp⟩) trivial ?_
    change wpAnyH _ _ _ _ _ _ _ (Act.put _ (some 17) _) _
    try simp only [Act.put, zA8, zB8, zC8]
    refine wpAnyH_ready (rs := [10]) (by kernel_rfl) (by simp) ?_
    refine AllReadyH.cons (o := { dst := some 18, op := .buildSlice 25 1 #[(0, .const (.agg #[.string ⟨#[]⟩, .string ⟨#[]⟩, .slice none 0 0, .slice none 0 0, .string ⟨#[]⟩]))], type := _, pos := _, after := _, guard := none }) rfl (fun K0 hK => ?_) AllReadyH.nil
    go_simp
    refine hK.out _ _ trivial (fun _ => ?_)
    clear hK
    try simp only [Act.put, zA8, zB8, zC8]
    have A3 := A1.below (below_alloc8 w1 ZN)
    have Z3 : Blk N0 ZN (w1.alloc ZN) := by have := Blk.new ZN w1; rwa [s1] at this
    have s3 : (w1.alloc ZN).heap.size = N0 + 1 := by simp [s1]
    generalize w1.alloc ZN = w3 at *
    exact HM _ ⟨A3, Z3, s3⟩
   refine AllReadyH.cons (o := { dst := some 18, op := .buildSlice 25 1 #[(0, .const (.agg #[.string ⟨#[]⟩, .string ⟨#[]⟩, .slice none 0 0, .slice none 0 0, .string ⟨#[]⟩]))], type := _, pos := _, after := _, guard := none }) rfl (fun K0 hK => ?_) AllReadyH.nil
   go_simp
   refine hK.out _ _ trivial (fun _ => ?_)
   clear hK
   try simp only [Act.put, zA8, zB8, zC8]
   have A2 := A1.below (below_alloc8 w1 ZN)
   have Z2 : Blk N0 ZN (w1.alloc ZN) := by have := Blk.new ZN w1; rwa [s1] at this
   have s2 : (w1.alloc ZN).heap.size = N0 + 1 := by simp [s1]
   generalize w1.alloc ZN = w2 at *
   refine wpAnyH_ready (rs := [3]) (by kernel_rfl) (by simp) ?_
   refine AllReadyH.cons (o := { dst := some 11, op := .load 25 (.tmp 10), type := _, pos := _, after := _, guard := none }) rfl (fun K0 hK => ?_) AllReadyH.nil
   have c0 : w2.cell? ⟨C, 0, none⟩ = some (.slice kA K kc) := A2.blk.cell 0
   go_simp
   refine hK.out _ _ trivial (fun _ => ?_)
   clear hK c0
   try simp only [Act.put, zA8, zB8, zC8]
   refine wpAnyH_take (i := 9) (v := .int .i64 (K : Int)) rfl (by kernel_rfl) (by kernel_rfl) (by kernel_rfl) (fun _ _ _ h => h) (Or.inl ⟨by rfl, by intro w hSw; clear hSw; go_simp⟩) trivial ?_
   change wpAnyH _ _ _ _ _ _ _ (Act.put _ (some 17) _) _
   try simp only [Act.put, zA8, zB8, zC8]
   exact HM _ ⟨A2, Z2, s2⟩
  refine AllReadyH.cons (o := { dst := some 18, op := .buildSlice 25 1 #[(0, .const (.agg #[.string ⟨#[]⟩, .string ⟨#[]⟩, .slice none 0 0, .slice none 0 0, .string ⟨#[]⟩]))], type := _, pos := _, after := _, guard := none }) rfl (fun K0 hK => ?_) AllReadyH.nil
  go_simp
  refine hK.out _ _ trivial (fun _ => ?_)
  clear hK
  try simp only [Act.put, zA8, zB8, zC8]
  have H1 := H0.below (below_alloc8 w0 ZN)
  have Z1 : Blk N0 ZN (w0.alloc ZN) := by have := Blk.new ZN w0; rwa [s0] at this
  have s1 : (w0.alloc ZN).heap.size = N0 + 1 := by simp [s0]
  have O1 := O0.thenB (below_alloc8 w0 ZN)
  generalize w0.alloc ZN = w1 at *
  refine wpAnyH_ready (rs := [3, 7]) (by kernel_rfl) (by simp) ?_
  refine AllReadyH.cons (o := { dst := some 11, op := .load 25 (.tmp 10), type := _, pos := _, after := _, guard := none }) rfl (fun K0 hK => ?_) ?_
  ·-- 3
   have c0 : w1.cell? ⟨C, 0, none⟩ = some (.slice kA K kc) := H1.blk.cell 0
   go_simp
   refine hK.out _ _ trivial (fun _ => ?_)
   clear hK c0
   try simp only [Act.put, zA8, zB8, zC8]
   refine wpAnyH_take (i := 9) (v := .int .i64 (K : Int)) rfl (by kernel_rfl) (by kernel_rfl) (by kernel_rfl) (fun _ _ _ h => h) (Or.inl ⟨by rfl, by intro w hSw; clear hSw; go_simp⟩) trivial ?_
   change wpAnyH _ _ _ _ _ _ _ (Act.put _ (some 17) _) _
   try simp only [Act.put, zA8, zB8, zC8]
   refine wpAnyH_ready (rs := [7]) (by kernel_rfl) (by simp) ?_
   refine AllReadyH.cons (o := { dst := some 15, op := .call { callee := .value (.func 38), args := #[.tmp 14], argTypes := _ }, type := _, pos := _, after := _, guard := none }) rfl (fun K0 hK => ?_) AllReadyH.nil
   go_simp
   (with_reducible refine (HS.out _ H1).mono ?_)
   rintro e w3 ⟨rfl, hsz, ho⟩
   refine hK.out _ _ trivial (fun _ => ?_)
   clear hK
   try simp only [Act.put, zA8, zB8, zC8]
   have A3 := H1.taken O1 ho
   have s3 := hsz.trans s1
   have Z3 : Blk N0 ZN w3 := ho.blk Z1 (fun e => by have := hbl _ e; omega)
   clear hsz ho
   refine wpAnyH_take (i := 8) (v := .agg #[.string ⟨#[]⟩, .string ⟨#[]⟩, .slice none 0 0, .slice none 0 0, .string (bs t)]) rfl (by kernel_rfl) (by kernel_rfl) (by kernel_rfl) (fun _ _ _ h => h) (Or.inl ⟨by rfl, by intro w hSw; clear hSw; go_simp⟩) trivial ?_
   change wpAnyH _ _ _ _ _ _ _ (Act.put _ (some 16) _) _
   try simp only [Act.put, zA8, zB8, zC8]
   exact HM _ ⟨A3, Z3, s3⟩
  refine AllReadyH.cons (o := { dst := some 15, op := .call { callee := .value (.func 38), args := #[.tmp 14], argTypes := _ }, type := _, pos := _, after := _, guard := none }) rfl (fun K0 hK => ?_) AllReadyH.nil
  go_simp
  (with_reducible refine (HS.out _ H1).mono ?_)
  rintro e w2 ⟨rfl, hsz, ho⟩
  refine hK.out _ _ trivial (fun _ => ?_)
  clear hK
  try simp only [Act.put, zA8, zB8, zC8]
  have A2 := H1.taken O1 ho
  have s2 := hsz.trans s1
  have Z2 : Blk N0 ZN w2 := ho.blk Z1 (fun e => by have := hbl _ e; omega)
  clear hsz ho
  refine wpAnyH_take (i := 8) (v := .agg #[.string ⟨#[]⟩, .string ⟨#[]⟩, .slice none 0 0, .slice none 0 0, .string (bs t)]) rfl (by kernel_rfl) (by kernel_rfl) (by kernel_rfl) (fun _ _ _ h => h) (Or.inl ⟨by rfl, by intro w hSw; clear hSw; go_simp⟩) trivial ?_
  change wpAnyH _ _ _ _ _ _ _ (Act.put _ (some 16) _) _
  try simp only [Act.put, zA8, zB8, zC8]
  refine wpAnyH_ready (rs := [3]) (by kernel_rfl) (by simp) ?_
  refine AllReadyH.cons (o := { dst := some 11, op := .load 25 (.tmp 10), type := _, pos := _, after := _, guard := none }) rfl (fun K0 hK => ?_) AllReadyH.nil
  have c0 : w2.cell? ⟨C, 0, none⟩ = some (.slice kA K kc) := A2.blk.cell 0
  go_simp
  refine hK.out _ _ trivial (fun _ => ?_)
  clear hK c0
  try simp only [Act.put, zA8, zB8, zC8]
  refine wpAnyH_take (i := 9) (v := .int .i64 (K : Int)) rfl (by kernel_rfl) (by kernel_rfl) (by kernel_rfl) (fun _ _ _ h => h) (Or.inl ⟨by rfl, by intro w hSw; clear hSw; go_simp⟩) trivial ?_
  change wpAnyH _ _ _ _ _ _ _ (Act.put _ (some 17) _) _
  try simp only [Act.put, zA8, zB8, zC8]
  exact HM _ ⟨A2, Z2, s2⟩
 case rest =>
  clear H0 O0 s0 w0
  obtain ⟨A1, Z1, s1⟩ := hW
  obtain ⟨i0, hi, hz0, hz1, hz2⟩ := info_parts Tryz.info8N
  refine wpAnyH_ready (rs := [11]) (by kernel_rfl) (by simp) ?_
  refine AllReadyH.cons (o := { dst := some 19, op := .call { callee := .builtin .append, args := #[.tmp 11, .tmp 18], argTypes := #[25, 25] }, type := _, pos := _, after := _, guard := none }) rfl (fun K' hK' => ?_) AllReadyH.nil
  refine step_append_lies W rfl (.tmp 11) (.tmp 18) 25 rfl C TNo i0 _ 5 96 Tryz.underlying25 hi hz0 hz1 hz2 rfl (by decide) (.slice kA K kc) K cs rfl (by have := A1.kids; rw [HK.out] at this; exact this) ⟨N0, 0, none⟩ 1 1 zN5 rfl rfl (World.news_of_block Z1) (fun u hu => by simp at hu; rcases hu with rfl | rfl | rfl | rfl | rfl <;> rfl) (by decide) (by unfold maxLen; omega) (by omega) (by omega) (N0 + 1) s1 ?_
  intro g cap w2 L2 gr2 at2 lt2
  have o2 := Off.of_grown gr2
  refine hK'.out _ _ trivial (fun _ => ?_)
  clear hK' K'
  try simp only [Act.put, zA8, zB8, zC8]
  have B2 : Blk C (CoB (.slice kA K kc) pv bv) w2 := o2.blk A1.blk (fun e => hkC e)
  have R2 : XRs w2 T ks cs := XRs.off o2 (fun b hb e => (H.out.apart b hb).2.2.1 e) _ _ A1.read
  have hat : (Value.slice kA K kc).ownBlock = some g ∨ w.heap.size ≤ g := at2.imp id (fun h => by omega)
  have hgC : C < g := by
   rcases hat with h | h
   ·have h1 := hkCC g h
    have h2 : g ≠ C := fun e => hkC (by rw [h, e])
    omega
   ·omega
  have hgT : ∀ b, T b → b ≠ g := fun b hb e => by
   subst e
   rcases hat with h | h
   ·exact (H.out.apart b hb).2.2.1 h
   ·have := (H.out.apart b hb).2.1; omega
  have O2 : Off (AllF C (.slice kA K kc) bv) w w2 := (A1.off.mono (fun b h => .inr (.inr h))).then (o2.mono (fun b h => .inr (.inl h)))
  clear at2 gr2 o2 Z1 s1 A1
  have hg1 : (0 : Int) ≤ (K : Int) ∧ (K : Int) < ((K + 1 : Nat) : Int) := by omega
  have hg2 : (0 : Int) ≤ (K : Int) ∧ (K : Int) < (K : Int) + 1 := by omega
  refine wpAnyH_take (i := 12) (v := .pointer (some ⟨g, K * 5, none⟩)) rfl (by kernel_rfl) (by kernel_rfl) (by kernel_rfl) (fun _ _ _ h => h) (Or.inl ⟨by rfl, by intro w hSw; clear hSw; go_simp⟩) trivial ?_
  change wpAnyH _ _ _ _ _ _ _ (Act.put _ (some 20) _) _
  try simp only [Act.put, zA8, zB8, zC8]
  refine wpAnyH_take (i := 14) (v := .pointer (some ⟨C, 0, none⟩)) rfl (by kernel_rfl) (by kernel_rfl) (by kernel_rfl) (fun _ _ _ h => h) (Or.inl ⟨by rfl, by intro w hSw; clear hSw; go_simp⟩) trivial ?_
  change wpAnyH _ _ _ _ _ _ _ (Act.put _ (some 21) _) _
  try simp only [Act.put, zA8, zB8, zC8]
  refine wpAnyH_take (i := 15) (v := .pointer (some ⟨C, 0, none⟩)) rfl (by kernel_rfl) (by kernel_rfl) (by kernel_rfl) (fun _ _ _ h => h) (Or.inl ⟨by rfl, by intro w hSw; clear hSw; go_simp⟩) trivial ?_
  change wpAnyH _ _ _ _ _ _ _ (Act.put _ (some 22) _) _
  try simp only [Act.put, zA8, zB8, zC8]
  refine wpAnyH_ready (rs := [13, 16]) (by kernel_rfl) (by simp) ?_
  refine AllReadyH.cons (o := { dst := none, op := .store TNo (.tmp 20) (.tmp 16), type := _, pos := _, after := _, guard := none }) rfl (fun K0 hK => ?_) ?_
  ·-- the element first
   refine step_st5 rfl 20 16 rfl rfl w2 (b := g) (k := K * 5) (x0 := .string ⟨#[]⟩) (x1 := .string ⟨#[]⟩) (x2 := .slice none 0 0) (x3 := .slice none 0 0) (x4 := .string (bs t)) rfl rfl (own5_there L2) (all5 rfl rfl rfl rfl rfl) ?_
   have o3 := off_sets8 g [.string ⟨#[]⟩, .string ⟨#[]⟩, .slice none 0 0, .slice none 0 0, .string (bs t)] (K * 5) w2
   have L3 := own5_set (x0 := .string ⟨#[]⟩) (x1 := .string ⟨#[]⟩) (x2 := .slice none 0 0) (x3 := .slice none 0 0) (x4 := .string (bs t)) (by have := H.out.kids.1; rw [HK.out] at this; exact this) L2
   have B3 := o3.blk B2 (fun e => by omega)
   have R3 := XRs.off o3 (fun b hb e => hgT b hb e) _ _ R2
   have O3 := O2.trans o3 (fun b h => by rw [h]; exact hat.imp (fun h => .inr (.inl h)) id)
   refine hK.out _ _ trivial (fun _ => ?_)
   clear hK
   generalize w2.setCells g (K * 5) [.string ⟨#[]⟩, .string ⟨#[]⟩, .slice none 0 0, .slice none 0 0, .string (bs t)] = w3 at *
   refine wpAnyH_ready (rs := [16]) (by kernel_rfl) (by simp) ?_
   refine AllReadyH.cons (o := { dst := none, op := .store 25 (.tmp 22) (.tmp 19), type := _, pos := _, after := _, guard := none }) rfl (fun K0 hK => ?_) AllReadyH.nil
   refine step_stS rfl 22 19 rfl rfl w3 (b := C) (k := 0) (v := .slice (some ⟨g, 0, none⟩) (K + 1) cap) rfl rfl (B3.cell 0) (B3.free 0) ⟨_, _, _, rfl⟩ ?_
   have o4 := off_set8 w3 C 0 (.slice (some ⟨g, 0, none⟩) (K + 1) cap)
   have L4 := own_off L3 o4 (fun b hb e => by have : g = b := Option.some.inj hb; omega)
   have B4 : Blk C (CoB (.slice (some ⟨g, 0, none⟩) (K + 1) cap) pv bv) (w3.setCell ⟨C, 0, none⟩ (.slice (some ⟨g, 0, none⟩) (K + 1) cap)) := by have := B3.set 0 (.slice (some ⟨g, 0, none⟩) (K + 1) cap); simpa using this
   have R4 := XRs.off o4 (fun b hb e => by have := (H.out.apart b hb).1; omega) _ _ R3
   have O4 := O3.then (o4.mono (fun b h => .inl h))
   refine hK.out _ _ trivial (fun _ => ?_)
   clear hK
   generalize w3.setCell ⟨C, 0, none⟩ (.slice (some ⟨g, 0, none⟩) (K + 1) cap) = w4 at *
   refine wpAnyH_done (by kernel_rfl) ?_ _
   go_wp2_with fail
   refine (HR.out _ _ _ _ B4).mono ?_
   rintro e w5 ⟨rfl, B5, o5⟩
   have L5 := own_off L4 o5 (fun b hb e => by have : g = b := Option.some.inj hb; omega)
   have R5 := XRs.off o5 (fun b hb e => by have := (H.out.apart b hb).1; omega) _ _ R4
   have O5 := O4.then (o5.mono (fun b h => .inl h))
   have HC5 : Hid (CSt C T (.slice (some ⟨g, 0, none⟩) (K + 1) cap) (.pointer none) (.slice none 0 0) (ks ++ [textX t]) _ [] w5) := hid (CSt.pushed HK.out.symm B5 (.inl rfl) L5 (XRs.snoc (xr_text w5 T t) ks cs R5) H.out.apart hat O5.size)
   have HO5 := hid O5
   have c5 : w5.cell? ⟨C, 0, none⟩ = some (.slice (some ⟨g, 0, none⟩) (K + 1) cap) := B5.cell 0
   clear L5 R5 O5 B5 o5
   go_wp2
   go_ret
   exact ⟨_, _, rfl, by rw [allX_text HT.out]; exact HC5.out, HO5.out⟩
  ·-- the field first
   refine AllReadyH.cons (o := { dst := none, op := .store 25 (.tmp 22) (.tmp 19), type := _, pos := _, after := _, guard := none }) rfl (fun K0 hK => ?_) AllReadyH.nil
   refine step_stS rfl 22 19 rfl rfl w2 (b := C) (k := 0) (v := .slice (some ⟨g, 0, none⟩) (K + 1) cap) rfl rfl (B2.cell 0) (B2.free 0) ⟨_, _, _, rfl⟩ ?_
   have o3 := off_set8 w2 C 0 (.slice (some ⟨g, 0, none⟩) (K + 1) cap)
   have L3 := own_off L2 o3 (fun b hb e => by have : g = b := Option.some.inj hb; omega)
   have B3 : Blk C (CoB (.slice (some ⟨g, 0, none⟩) (K + 1) cap) pv bv) (w2.setCell ⟨C, 0, none⟩ (.slice (some ⟨g, 0, none⟩) (K + 1) cap)) := by have := B2.set 0 (.slice (some ⟨g, 0, none⟩) (K + 1) cap); simpa using this
   have R3 := XRs.off o3 (fun b hb e => by have := (H.out.apart b hb).1; omega) _ _ R2
   have O3 := O2.then (o3.mono (fun b h => .inl h))
   refine hK.out _ _ trivial (fun _ => ?_)
   clear hK
   generalize w2.setCell ⟨C, 0, none⟩ (.slice (some ⟨g, 0, none⟩) (K + 1) cap) = w3 at *
   refine wpAnyH_ready (rs := [13]) (by kernel_rfl) (by simp) ?_
   refine AllReadyH.cons (o := { dst := none, op := .store TNo (.tmp 20) (.tmp 16), type := _, pos := _, after := _, guard := none }) rfl (fun K0 hK => ?_) AllReadyH.nil
   refine step_st5 rfl 20 16 rfl rfl w3 (b := g) (k := K * 5) (x0 := .string ⟨#[]⟩) (x1 := .string ⟨#[]⟩) (x2 := .slice none 0 0) (x3 := .slice none 0 0) (x4 := .string (bs t)) rfl rfl (own5_there L3) (all5 rfl rfl rfl rfl rfl) ?_
   have o4 := off_sets8 g [.string ⟨#[]⟩, .string ⟨#[]⟩, .slice none 0 0, .slice none 0 0, .string (bs t)] (K * 5) w3
   have L4 := own5_set (x0 := .string ⟨#[]⟩) (x1 := .string ⟨#[]⟩) (x2 := .slice none 0 0) (x3 := .slice none 0 0) (x4 := .string (bs t)) (by have := H.out.kids.1; rw [HK.out] at this; exact this) L3
   have B4 := o4.blk B3 (fun e => by omega)
   have R4 := XRs.off o4 (fun b hb e => hgT b hb e) _ _ R3
   have O4 := O3.trans o4 (fun b h => by rw [h]; exact hat.imp (fun h => .inr (.inl h)) id)
   refine hK.out _ _ trivial (fun _ => ?_)
   clear hK
   generalize w3.setCells g (K * 5) [.string ⟨#[]⟩, .string ⟨#[]⟩, .slice none 0 0, .slice none 0 0, .string (bs t)] = w4 at *
   refine wpAnyH_done (by kernel_rfl) ?_ _
   go_wp2_with fail
   refine (HR.out _ _ _ _ B4).mono ?_
   rintro e w5 ⟨rfl, B5, o5⟩
   have L5 := own_off L4 o5 (fun b hb e => by have : g = b := Option.some.inj hb; omega)
   have R5 := XRs.off o5 (fun b hb e => by have := (H.out.apart b hb).1; omega) _ _ R4
   have O5 := O4.then (o5.mono (fun b h => .inl h))
   have HC5 : Hid (CSt C T (.slice (some ⟨g, 0, none⟩) (K + 1) cap) (.pointer none) (.slice none 0 0) (ks ++ [textX t]) _ [] w5) := hid (CSt.pushed HK.out.symm B5 (.inl rfl) L5 (XRs.snoc (xr_text w5 T t) ks cs R5) H.out.apart hat O5.size)
   have HO5 := hid O5
   have c5 : w5.cell? ⟨C, 0, none⟩ = some (.slice (some ⟨g, 0, none⟩) (K + 1) cap) := B5.cell 0
   clear L5 R5 O5 B5 o5
   go_wp2
   go_ret
   exact ⟨_, _, rfl, by rw [allX_text HT.out]; exact HC5.out, HO5.out⟩
theorem all_any {C : Nat} {T : Nat → Prop} {kv pv bv : Value} {ks : List XV} {cs : List Value} {t : Bt} {w : World} (h : CSt C T kv pv bv ks cs t w) (hk : ks.length ≤ 1000000) :
    Calls Tryz.prog 106 #[.pointer (some ⟨C, 0, none⟩)] w fun e w' => ∃ kv' pv' bv' cs', e = .returned kv' ∧ CSt C T kv' pv' bv' (allX ks t) cs' [] w' ∧ Off (AllF C kv bv) w w' := by
 by_cases ht : t = []
 ·subst ht
  have HL := hid (lenC_any h)
  obtain ⟨kA, kc, rfl⟩ := h.kv
  have H := hid h
  have c0 : w.cell? ⟨C, 0, none⟩ = some (.slice kA ks.length kc) := h.blk.cell 0
  obtain ⟨K, hK⟩ : ∃ K, ks.length = K := ⟨_, rfl⟩
  rw [hK] at c0 ⊢
  have HK := hid hK
  clear h hK hk
  go_enter Tryz.func106, Tryz.ntmps106
  go_wp2_with (go_at_call 125; (with_reducible refine HL.out.mono ?_); rintro e w1 ⟨rfl, rfl⟩)
  go_ret
  exact ⟨_, pv, bv, cs, rfl, by rw [← HK.out]; exact H.out, Off.refl _ _⟩
 ·refine (all_text h ht hk).mono ?_
  rintro e w' ⟨kv', cs', rfl, hC, ho⟩
  exact ⟨kv', _, _, cs', rfl, hC, ho⟩
set_option maxRecDepth 100000 in
set_option maxHeartbeats 40000000 in
theorem add_any {C : Nat} {T : Nat → Prop} {kv pv bv : Value} {ks : List XV} {cs : List Value} {t : Bt} {w : World} {v : XV} {x : Value} (h : CSt C T kv pv bv ks cs t w) (hx : XR w T v x) (hk : ks.length ≤ 500000) :
    Calls Tryz.prog 123 #[.pointer (some ⟨C, 0, none⟩), x] w fun e w' => ∃ kv' pv' bv' cs', e = .returned (.tuple #[]) ∧ CSt C T kv' pv' bv' (allX ks t ++ [v]) cs' [] w' ∧ Off (fun b => C ≤ b) w w' := by
 obtain ⟨x0, x1, x2, x3, x4, rfl, hone⟩ := hx.agg5
 have hl1 : (allX ks t).length ≤ 1000000 := by
  unfold allX
  split
  ·omega
  ·rw [List.length_append, List.length_singleton]; omega
 obtain ⟨N, hN⟩ : ∃ N, (allX ks t).length = N := ⟨_, rfl⟩
 rw [hN] at hl1
 have HN := hid hN
 have hCl := h.blk.lt
 have hfr : ∀ b, AllF C kv bv b → C ≤ b ∧ b < w.heap.size := fun b hb => by
  rcases hb with hb | hb | hb
  ·exact ⟨Nat.le_of_eq hb.symm, by omega⟩
  ·exact World.ownsRow.lt h.kids b hb
  ·exact World.ownsRow.lt h.buf b hb
 obtain ⟨B, hB⟩ : ∃ B, w.heap.size = B := ⟨_, rfl⟩
 have HH : Hid (CSt C T kv pv bv ks cs t (w.alloc (.cells #[x0, x1, x2, x3, x4] TNo))) := hid (h.below (below_alloc8 _ _))
 have HB : Hid (Blk B (.cells #[x0, x1, x2, x3, x4] TNo) (w.alloc (.cells #[x0, x1, x2, x3, x4] TNo))) := hid (by have := Blk.new (.cells #[x0, x1, x2, x3, x4] TNo) w; rwa [hB] at this)
 have HX : Hid (XR (w.alloc (.cells #[x0, x1, x2, x3, x4] TNo)) T v (.agg #[x0, x1, x2, x3, x4])) := hid (hx.below (below_alloc8 _ _))
 have HO : Hid (Off (fun b => C ≤ b) w (w.alloc (.cells #[x0, x1, x2, x3, x4] TNo))) := hid (Off.ofB (below_alloc8 _ _))
 have hAT : ∀ b, T b → ¬ AllF C kv bv b := fun b hb e => by
  have h1 := h.apart b hb
  rcases e with e | e | e
  ·omega
  ·exact h1.2.2.1 e
  ·exact h1.2.2.2 e
 have HA : Hid (∀ W, CSt C T kv pv bv ks cs t W → Calls Tryz.prog 106 #[.pointer (some ⟨C, 0, none⟩)] W (fun e w' => ∃ kv' pv' bv' cs', e = .returned kv' ∧ CSt C T kv' pv' bv' (allX ks t) cs' [] w' ∧ Off (AllF C kv bv) W w')) := hid (fun W hW => all_any hW (by omega))
 clear h hx hN hk
 go_enter Tryz.func123, Tryz.ntmps123
 go_wp2
 generalize w.alloc (.cells #[x0, x1, x2, x3, x4] TNo) = wb at *
 refine wp_region_held_drew (S := fun _ => True) (by kernel_rfl) trivial (fun _ => ?_)
 have D0 : Off (fun _ => False) wb wb.drew := ⟨rfl, rfl, rfl, Nat.le_refl _, fun _ _ _ => rfl⟩
 have H0 : CSt C T kv pv bv ks cs t wb.drew := HH.out.off (F := fun _ => False) ⟨rfl, rfl, rfl, Nat.le_refl _, fun _ _ _ => rfl⟩ (fun _ h => h.elim)
 have B0 : Blk B (.cells #[x0, x1, x2, x3, x4] TNo) wb.drew := HB.out
 have O0 : Off (fun b => C ≤ b) w wb.drew := HO.out.then ⟨rfl, rfl, rfl, Nat.le_refl _, fun _ _ _ => rfl⟩
 have X0 : XR wb.drew T v (.agg #[x0, x1, x2, x3, x4]) := XR.off D0 (fun _ _ h => h) _ _ HX.out
 have hBl : B ≤ wb.drew.heap.size := by have := B0.lt; omega
 generalize wb.drew = w0 at *
 clear HH HB HX HO D0
 refine wpAnyH_take (i := 0) (v := .pointer (some ⟨C, 0, none⟩)) rfl (by kernel_rfl) (by kernel_rfl) (by kernel_rfl) (fun _ _ _ h => h) (Or.inl ⟨by rfl, by intro w hSw; clear hSw; go_simp⟩) trivial ?_
 change wpAnyH _ _ _ _ _ _ _ (Act.put _ (some 4) _) _
 try simp only [Act.put, zA8, zB8, zC8]
 refine wpAnyH_take (i := 1) (v := .pointer (some ⟨C, 0, none⟩)) rfl (by kernel_rfl) (by kernel_rfl) (by kernel_rfl) (fun _ _ _ h => h) (Or.inl ⟨by rfl, by intro w hSw; clear hSw; go_simp⟩) trivial ?_
 change wpAnyH _ _ _ _ _ _ _ (Act.put _ (some 5) _) _
 try simp only [Act.put, zA8, zB8, zC8]
 refine orders_meetP (α := Nat × Option Addr × Nat) (f := 4) (l := #[true, true, true, true, true, false, false, false, false]) (fun p => { tmps := #[.pointer (some ⟨C, 0, none⟩), .agg #[x0, x1, x2, x3, x4], undef, .pointer (some ⟨B, 0, none⟩), .pointer (some ⟨C, 0, none⟩), .pointer (some ⟨C, 0, none⟩), .slice p.2.1 N p.2.2, .agg #[x0, x1, x2, x3, x4], .slice (some ⟨p.1, 0, none⟩) 1 1, undef, undef, undef], defers := [] }) (fun p W => ∃ pv1 bv1 cs1, CSt C T (.slice p.2.1 N p.2.2) pv1 bv1 (allX ks t) cs1 [] W ∧ Blk p.1 (.cells #[x0, x1, x2, x3, x4] TNo) W ∧ XR W T v (.agg #[x0, x1, x2, x3, x4]) ∧ Off (fun b => C ≤ b) w W) (fun p W hW => ?rest) (fun HM => ?here)
 case here =>
  refine wpAnyH_ready (rs := [2, 3]) (by kernel_rfl) (by simp) ?_
  refine AllReadyH.cons (o := { dst := some 6, op := .call { callee := .value (.func 106), args := #[.tmp 5], argTypes := _ }, type := _, pos := _, after := _, guard := none }) rfl (fun K0 hK => ?_) ?_
  ·-- 2
   go_simp
   (with_reducible refine (HA.out _ H0).mono ?_)
   rintro e w1 ⟨kv1, pv1, bv1, cs1, rfl, A1, o1⟩
   obtain ⟨A, c, rfl⟩ := A1.kv
   rw [HN.out] at A1 ⊢
   refine hK.out _ _ trivial (fun _ => ?_)
   clear hK
   try simp only [Act.put, zA8, zB8, zC8]
   have X1 : XR w1 T v (.agg #[x0, x1, x2, x3, x4]) := XR.off o1 hAT _ _ X0
   have B1 := o1.blk B0 (fun e => by have := (hfr B e).2; omega)
   have O1 := O0.then (o1.mono (fun b h => (hfr b h).1))
   clear o1
   refine wpAnyH_ready (rs := [3]) (by kernel_rfl) (by simp) ?_
   refine AllReadyH.cons (o := { dst := some 7, op := .load TNo (.tmp 3), type := _, pos := _, after := _, guard := none }) rfl (fun K0 hK => ?_) AllReadyH.nil
   have r := B1.cell 0
   have hr : w1.rangeAt B 0 [x0, x1, x2, x3, x4] := fun j u hj => by rw [Nat.zero_add, B1.cell j]; simpa using hj
   clear r
   refine step_ld5 rfl 3 rfl w1 (b := B) (k := 0) rfl hr ?_
   clear hr
   refine hK.out _ _ trivial (fun _ => ?_)
   clear hK
   try simp only [Act.put, zA8, zB8, zC8]
   refine wpAnyH_ready (rs := [4]) (by kernel_rfl) (by simp) ?_
   refine AllReadyH.cons (o := { dst := some 8, op := .buildSlice 25 1 #[(0, .tmp 7)], type := _, pos := _, after := _, guard := none }) rfl (fun K0 hK => ?_) AllReadyH.nil
   refine step_bs5 rfl 7 rfl w1 (x0 := x0) (x1 := x1) (x2 := x2) (x3 := x3) (x4 := x4) rfl ?_
   refine hK.out _ _ trivial (fun _ => ?_)
   clear hK
   try simp only [Act.put, zA8, zB8, zC8]
   have Z3 : Blk w1.heap.size (.cells #[x0, x1, x2, x3, x4] TNo) (w1.alloc (.cells #[x0, x1, x2, x3, x4] TNo)) := Blk.new _ _
   have hb3 := below_alloc8 w1 (.cells #[x0, x1, x2, x3, x4] TNo)
   have H3 := A1.below hb3
   have X3 := XR.below X1 hb3
   have B3 := (Off.of_below hb3).blk B1 (fun h => h)
   have O3 := O1.thenB hb3
   have hN3 : B ≤ w1.heap.size := Nat.le_of_lt B1.lt
   clear hb3
   generalize w1.alloc (.cells #[x0, x1, x2, x3, x4] TNo) = w3 at *
   obtain ⟨M3, hM3⟩ : ∃ M, w1.heap.size = M := ⟨_, rfl⟩
   rw [hM3] at Z3 hN3 ⊢
   exact HM (M3, A, c) _ ⟨pv1, bv1, cs1, H3, Z3, X3, O3⟩
  refine AllReadyH.cons (o := { dst := some 7, op := .load TNo (.tmp 3), type := _, pos := _, after := _, guard := none }) rfl (fun K0 hK => ?_) AllReadyH.nil
  have r := B0.cell 0
  have hr : w0.rangeAt B 0 [x0, x1, x2, x3, x4] := fun j u hj => by rw [Nat.zero_add, B0.cell j]; simpa using hj
  clear r
  refine step_ld5 rfl 3 rfl w0 (b := B) (k := 0) rfl hr ?_
  clear hr
  refine hK.out _ _ trivial (fun _ => ?_)
  clear hK
  try simp only [Act.put, zA8, zB8, zC8]
  refine wpAnyH_ready (rs := [2, 4]) (by kernel_rfl) (by simp) ?_
  refine AllReadyH.cons (o := { dst := some 6, op := .call { callee := .value (.func 106), args := #[.tmp 5], argTypes := _ }, type := _, pos := _, after := _, guard := none }) rfl (fun K0 hK => ?_) ?_
  ·-- 2
   go_simp
   (with_reducible refine (HA.out _ H0).mono ?_)
   rintro e w2 ⟨kv1, pv1, bv1, cs1, rfl, A1, o1⟩
   obtain ⟨A, c, rfl⟩ := A1.kv
   rw [HN.out] at A1 ⊢
   refine hK.out _ _ trivial (fun _ => ?_)
   clear hK
   try simp only [Act.put, zA8, zB8, zC8]
   have X2 : XR w2 T v (.agg #[x0, x1, x2, x3, x4]) := XR.off o1 hAT _ _ X0
   have B2 := o1.blk B0 (fun e => by have := (hfr B e).2; omega)
   have O2 := O0.then (o1.mono (fun b h => (hfr b h).1))
   clear o1
   refine wpAnyH_ready (rs := [4]) (by kernel_rfl) (by simp) ?_
   refine AllReadyH.cons (o := { dst := some 8, op := .buildSlice 25 1 #[(0, .tmp 7)], type := _, pos := _, after := _, guard := none }) rfl (fun K0 hK => ?_) AllReadyH.nil
   refine step_bs5 rfl 7 rfl w2 (x0 := x0) (x1 := x1) (x2 := x2) (x3 := x3) (x4 := x4) rfl ?_
   refine hK.out _ _ trivial (fun _ => ?_)
   clear hK
   try simp only [Act.put, zA8, zB8, zC8]
   have Z3 : Blk w2.heap.size (.cells #[x0, x1, x2, x3, x4] TNo) (w2.alloc (.cells #[x0, x1, x2, x3, x4] TNo)) := Blk.new _ _
   have hb3 := below_alloc8 w2 (.cells #[x0, x1, x2, x3, x4] TNo)
   have H3 := A1.below hb3
   have X3 := XR.below X2 hb3
   have B3 := (Off.of_below hb3).blk B2 (fun h => h)
   have O3 := O2.thenB hb3
   have hN3 : B ≤ w2.heap.size := Nat.le_of_lt B2.lt
   clear hb3
   generalize w2.alloc (.cells #[x0, x1, x2, x3, x4] TNo) = w3 at *
   obtain ⟨M3, hM3⟩ : ∃ M, w2.heap.size = M := ⟨_, rfl⟩
   rw [hM3] at Z3 hN3 ⊢
   exact HM (M3, A, c) _ ⟨pv1, bv1, cs1, H3, Z3, X3, O3⟩
  refine AllReadyH.cons (o := { dst := some 8, op := .buildSlice 25 1 #[(0, .tmp 7)], type := _, pos := _, after := _, guard := none }) rfl (fun K0 hK => ?_) AllReadyH.nil
  refine step_bs5 rfl 7 rfl w0 (x0 := x0) (x1 := x1) (x2 := x2) (x3 := x3) (x4 := x4) rfl ?_
  refine hK.out _ _ trivial (fun _ => ?_)
  clear hK
  try simp only [Act.put, zA8, zB8, zC8]
  have Z2 : Blk w0.heap.size (.cells #[x0, x1, x2, x3, x4] TNo) (w0.alloc (.cells #[x0, x1, x2, x3, x4] TNo)) := Blk.new _ _
  have hb2 := below_alloc8 w0 (.cells #[x0, x1, x2, x3, x4] TNo)
  have H2 := H0.below hb2
  have X2 := XR.below X0 hb2
  have B2 := (Off.of_below hb2).blk B0 (fun h => h)
  have O2 := O0.thenB hb2
  have hN2 : B ≤ w0.heap.size := Nat.le_of_lt B0.lt
  clear hb2
  generalize w0.alloc (.cells #[x0, x1, x2, x3, x4] TNo) = w2 at *
  obtain ⟨M2, hM2⟩ : ∃ M, w0.heap.size = M := ⟨_, rfl⟩
  rw [hM2] at Z2 hN2 ⊢
  refine wpAnyH_ready (rs := [2]) (by kernel_rfl) (by simp) ?_
  refine AllReadyH.cons (o := { dst := some 6, op := .call { callee := .value (.func 106), args := #[.tmp 5], argTypes := _ }, type := _, pos := _, after := _, guard := none }) rfl (fun K0 hK => ?_) AllReadyH.nil
  go_simp
  (with_reducible refine (HA.out _ H2).mono ?_)
  rintro e w3 ⟨kv1, pv1, bv1, cs1, rfl, A1, o1⟩
  obtain ⟨A, c, rfl⟩ := A1.kv
  rw [HN.out] at A1 ⊢
  refine hK.out _ _ trivial (fun _ => ?_)
  clear hK
  try simp only [Act.put, zA8, zB8, zC8]
  have X3 : XR w3 T v (.agg #[x0, x1, x2, x3, x4]) := XR.off o1 hAT _ _ X2
  have B3 := o1.blk B2 (fun e => by have := (hfr B e).2; omega)
  have O3 := O2.then (o1.mono (fun b h => (hfr b h).1))
  have Z3 := o1.blk Z2 (fun e => by have := (hfr _ e).2; omega)
  clear o1
  exact HM (M2, A, c) _ ⟨pv1, bv1, cs1, A1, Z3, X3, O3⟩
 case rest =>
  obtain ⟨H, A, c⟩ := p
  obtain ⟨pv1, bv1, cs1, C1, Z1, X1, O1⟩ := hW
  simp only at C1 Z1
  clear H0 O0 X0 B0 hBl w0
  obtain ⟨i0, hi, hz0, hz1, hz2⟩ := info_parts Tryz.info8N
  refine wpAnyH_ready (rs := [5]) (by kernel_rfl) (by simp) ?_
  refine AllReadyH.cons (o := { dst := some 9, op := .call { callee := .builtin .append, args := #[.tmp 6, .tmp 8], argTypes := #[25, 25] }, type := _, pos := _, after := _, guard := none }) rfl (fun K0 hK => ?_) AllReadyH.nil
  refine step_append_lies W rfl (.tmp 6) (.tmp 8) 25 rfl C TNo i0 _ 5 96 Tryz.underlying25 hi hz0 hz1 hz2 rfl (by decide) (.slice A N c) N cs1 rfl (by have := C1.kids; rw [HN.out] at this; exact this) ⟨H, 0, none⟩ 1 1 [x0, x1, x2, x3, x4] rfl rfl (World.news_of_block Z1) (fun u hu => of_all5 hone u hu) (by decide) (by unfold maxLen; omega) (by omega) (Nat.le_of_lt C1.blk.lt) W.heap.size rfl ?_
  intro g cap w2 L2 gr2 at2 lt2
  have o2 := Off.of_grown gr2
  refine hK.out _ _ trivial (fun _ => ?_)
  clear hK
  try simp only [Act.put, zA8, zB8, zC8]
  have hkC : (Value.slice A N c).ownBlock ≠ some C := own_apartB C1.kids C1.blk (by decide)
  have B2 : Blk C (CoB (.slice A N c) pv1 bv1) w2 := o2.blk C1.blk (fun e => hkC e)
  have R2 : XRs w2 T (allX ks t ++ [v]) (cs1 ++ [x0, x1, x2, x3, x4]) := XRs.snoc (XR.off o2 (fun b hb e => (C1.apart b hb).2.2.1 e) _ _ X1) _ _ (XRs.off o2 (fun b hb e => (C1.apart b hb).2.2.1 e) _ _ C1.read)
  have hat : (Value.slice A N c).ownBlock = some g ∨ W.heap.size ≤ g := at2.imp id (fun h => by omega)
  have hbv : w2.ownsRow C TBy 1 bv1 0 [] := own_off C1.buf o2 (fun b hb e => own_apart C1.kids C1.buf (by decide) e hb)
  have hgC : g ≠ C := fun e => by
   rcases hat with h | h
   ·exact hkC (by rw [h, e])
   ·have := C1.blk.lt; omega
  have hgb : bv1.ownBlock ≠ some g := fun e => by
   rcases hat with h | h
   ·exact own_apart C1.kids C1.buf (by decide) h e
   ·have := (World.ownsRow.lt C1.buf g e).2; omega
  have hgT : ∀ b, T b → b ≠ g := fun b hb e => by
   subst e
   rcases hat with h | h
   ·exact (C1.apart b hb).2.2.1 h
   ·have := (C1.apart b hb).2.1; omega
  have O2 : Off (fun b => C ≤ b) w w2 := O1.then (o2.mono (fun b h => (World.ownsRow.lt C1.kids b h).1))
  have hs2 : W.heap.size ≤ w2.heap.size := o2.size
  refine wpAnyH_take (i := 6) (v := .pointer (some ⟨C, 0, none⟩)) rfl (by kernel_rfl) (by kernel_rfl) (by kernel_rfl) (fun _ _ _ h => h) (Or.inl ⟨by rfl, by intro w hSw; clear hSw; go_simp⟩) trivial ?_
  change wpAnyH _ _ _ _ _ _ _ (Act.put _ (some 10) _) _
  try simp only [Act.put, zA8, zB8, zC8]
  refine wpAnyH_take (i := 7) (v := .pointer (some ⟨C, 0, none⟩)) rfl (by kernel_rfl) (by kernel_rfl) (by kernel_rfl) (fun _ _ _ h => h) (Or.inl ⟨by rfl, by intro w hSw; clear hSw; go_simp⟩) trivial ?_
  change wpAnyH _ _ _ _ _ _ _ (Act.put _ (some 11) _) _
  try simp only [Act.put, zA8, zB8, zC8]
  refine wpAnyH_ready (rs := [8]) (by kernel_rfl) (by simp) ?_
  refine AllReadyH.cons (o := { dst := none, op := .store 25 (.tmp 11) (.tmp 9), type := _, pos := _, after := _, guard := none }) rfl (fun K0 hK => ?_) AllReadyH.nil
  refine step_stS rfl 11 9 rfl rfl w2 (b := C) (k := 0) (v := .slice (some ⟨g, 0, none⟩) (N + 1) cap) rfl rfl (B2.cell 0) (B2.free 0) ⟨_, _, _, rfl⟩ ?_
  have o3 := off_set8 w2 C 0 (.slice (some ⟨g, 0, none⟩) (N + 1) cap)
  have L3 := own_off L2 o3 (fun b hb e => by have : g = b := Option.some.inj hb; exact hgC (by rw [this, e]))
  have B3 : Blk C (CoB (.slice (some ⟨g, 0, none⟩) (N + 1) cap) pv1 bv1) (w2.setCell ⟨C, 0, none⟩ (.slice (some ⟨g, 0, none⟩) (N + 1) cap)) := by have := B2.set 0 (.slice (some ⟨g, 0, none⟩) (N + 1) cap); simpa using this
  have R3 := XRs.off o3 (fun b hb e => by have := (C1.apart b hb).1; omega) _ _ R2
  have V3 := own_off hbv o3 (fun b hb e => own_apartB hbv B2 (by decide) (by rw [hb, e]))
  have O3 := O2.then (o3.mono (fun b h => Nat.le_of_eq h.symm))
  have hs3 := o3.size
  refine hK.out _ _ trivial (fun _ => ?_)
  clear hK
  generalize w2.setCell ⟨C, 0, none⟩ (.slice (some ⟨g, 0, none⟩) (N + 1) cap) = w3 at *
  refine wpAnyH_done (by kernel_rfl) ?_ _
  go_wp2
  go_end0
  exact ⟨_, _, _, _, rfl, ⟨B3, C1.addr, by rw [List.length_append, List.length_singleton, HN.out]; exact L3, R3, V3, fun b hb => by have h1 := C1.apart b hb; exact ⟨h1.1, by omega, fun e => hgT b hb (Option.some.inj e).symm, h1.2.2.2⟩⟩, O3⟩
set_option maxRecDepth 100000 in
set_option maxHeartbeats 4000000 in
theorem data_walk {R C : Nat} {s : Bt} {n : Nat} {sc : Value} {w : World} {T : Nat → Prop} {kv pv bv : Value} {ks : List XV} {cs : List Value} {t : Bt} (h : RS R s n sc w) (hm : ML w) (hR : 0 ≠ R) (hC : CSt C T kv pv bv ks cs t w) (hRC : R < C) (_hMC : 0 < C) (hs : s.length ≤ 100000) (hl : t.length ≤ 800000)
    (a r : Bt) (ok : Bool) (ht : (toL cdendW s = some (a, r) ∧ ok = true) ∨ (toL cdendW s = none ∧ a = s ∧ r = [] ∧ ok = false)) :
    Calls Tryz.prog 122 #[.pointer (some ⟨R, 0, none⟩), .pointer (some ⟨C, 0, none⟩)] w (fun e w' => e = .returned (.bool ok) ∧ RS R r n sc w' ∧ (∃ pv' bv', CSt C T kv pv' bv' ks cs (t ++ linesL a) w') ∧ Off (fun b => b = R ∨ C ≤ b) w w') := by
 have hal : a.length ≤ 100000 := by
  rcases ht with ⟨h1, _⟩ | ⟨_, h1, _⟩
  ·have := to_len h1; omega
  ·rw [h1]; exact hs
 have hll := lines_le a
 have HU : Hid (Calls Tryz.prog 97 #[.pointer (some ⟨R, 0, none⟩), .string ⟨#[93, 93, 62]⟩] w (fun e w' => e = .returned (.tuple #[.string (bs a), .bool ok]) ∧ RS R r n sc w' ∧ Off (fun b => b = R) w w')) := hid (upTo_any h hm cdendW (by decide) (by omega) a r ok ht)
 have HC := hid hC
 have HM := hid hm
 have HL := hid (fun W (hW : ML W) => lines_any a (by omega) W hW)
 obtain ⟨l, hle⟩ : ∃ l, linesL a = l := ⟨_, rfl⟩
 rw [hle] at HL hll ⊢
 have HW := hid (fun W kv pv bv (hW : CSt C T kv pv bv ks cs t W) => writeC_any hW l (by omega))
 clear h hm hC ht hle
 go_enter Tryz.func122, Tryz.ntmps122
 go_wp2_with (go_at_call 97; (with_reducible refine HU.out.mono ?_); rintro e w1 ⟨rfl, r1, o1⟩; have HR1 := hid r1; have HO1 := hid o1; clear r1 o1)
 refine wp_region_held_drew (S := fun _ => True) (by kernel_rfl) trivial (fun _ => ?_)
 have D0 : Off (fun _ => False) w1 w1.drew := ⟨rfl, rfl, rfl, Nat.le_refl _, fun _ _ _ => rfl⟩
 have R1 := HR1.out.off D0 (fun h => h)
 have M1 : ML w1.drew := (HM.out.rd hR HO1.out).off D0 (fun h => h)
 have C1 := (HC.out.off HO1.out (fun b e => by omega)).off D0 (fun _ h => h.elim)
 have O1 := HO1.out.thenB (Below.drew (Below.refl _ _))
 refine wpAnyH_take (i := 0) (v := .pointer (some ⟨C, 0, none⟩)) rfl (by kernel_rfl) (by kernel_rfl) (by kernel_rfl) (fun _ _ _ h => h) (Or.inl ⟨by rfl, by intro w hSw; clear hSw; go_simp⟩) trivial ?_
 change wpAnyH _ _ _ _ _ _ _ (Act.put _ (some 12) _) _
 try simp only [Act.put, zA8, zB8, zC8]
 refine wpAnyH_take (i := 1) (v := .pointer (some ⟨C, 0, none⟩)) rfl (by kernel_rfl) (by kernel_rfl) (by kernel_rfl) (fun _ _ _ h => h) (Or.inl ⟨by rfl, by intro w hSw; clear hSw; go_simp⟩) trivial ?_
 change wpAnyH _ _ _ _ _ _ _ (Act.put _ (some 13) _) _
 try simp only [Act.put, zA8, zB8, zC8]
 refine wpAnyH_take (i := 2) (v := .pointer (some ⟨C, 1, none⟩)) rfl (by kernel_rfl) (by kernel_rfl) (by kernel_rfl) (fun _ _ _ h => h) (Or.inl ⟨by rfl, by intro w hSw; clear hSw; go_simp⟩) trivial ?_
 change wpAnyH _ _ _ _ _ _ _ (Act.put _ (some 14) _) _
 try simp only [Act.put, zA8, zB8, zC8]
 refine wpAnyH_take (i := 3) (v := .string (bs a)) rfl (by kernel_rfl) (by kernel_rfl) (by kernel_rfl) (fun _ _ _ h => h) (Or.inl ⟨by rfl, by intro w hSw; clear hSw; go_simp⟩) trivial ?_
 change wpAnyH _ _ _ _ _ _ _ (Act.put _ (some 15) _) _
 try simp only [Act.put, zA8, zB8, zC8]
 refine wpAnyH_ready (rs := [4]) (by kernel_rfl) (by simp) ?_
 refine AllReadyH.cons (o := { dst := some 16, op := .call { callee := .value (.func 140), args := #[.tmp 15], argTypes := _ }, type := _, pos := _, after := _, guard := none }) rfl (fun K hK => ?_) AllReadyH.nil
 go_simp
 (with_reducible refine (HL.out _ M1).mono ?_)
 rintro e w2 ⟨rfl, b2⟩
 refine hK.out _ _ trivial (fun _ => ?_)
 clear hK K
 try simp only [Act.put, zA8, zB8, zC8]
 have R2 := R1.below b2
 have C2 := C1.below b2
 have O2 := O1.thenB b2
 clear b2 R1 M1 C1 O1 D0
 refine wpAnyH_ready (rs := [5]) (by kernel_rfl) (by simp) ?_
 refine AllReadyH.cons (o := { dst := some 17, op := .call { callee := .value (.func 66), args := #[.tmp 14, .tmp 16], argTypes := _ }, type := _, pos := _, after := _, guard := none }) rfl (fun K hK => ?_) AllReadyH.nil
 go_simp
 (with_reducible refine (HW.out _ _ _ _ C2).mono ?_)
 rintro e w3 ⟨⟨k, rfl⟩, ⟨pv', bv', C3⟩, o3⟩
 refine hK.out _ _ trivial (fun _ => ?_)
 clear hK K
 try simp only [Act.put, zA8, zB8, zC8]
 have R3 := R2.off o3 (fun e => by omega)
 have O3 : Off (fun b => b = R ∨ C ≤ b) w w3 := (O2.mono (fun b h => .inl h)).then (o3.mono (fun b h => .inr h))
 clear R2 C2 O2 o3
 refine wpAnyH_done (by kernel_rfl) ?_ _
 have HR3 := hid R3
 have HO3 := hid O3
 have HC3 := hid C3
 clear R3 O3 C3
 go_wp2
 go_ret
 exact ⟨rfl, HR3.out, ⟨_, _, HC3.out⟩, HO3.out⟩
def CnO (R C n : Nat) (sc : Value) (T : Nat → Prop) (kv : Value) (ks : List XV) (cs : List Value) (t : Bt) (w : World) (o : Option (Bt × Bt)) (e : Ending) (w' : World) : Prop :=
 Off (fun b => b = R ∨ C ≤ b) w w' ∧ match o with
 | none => e = .returned (.bool false)
 | some (x, r) => e = .returned (.bool true) ∧ RS R r n sc w' ∧ ∃ pv' bv', CSt C T kv pv' bv' ks cs (t ++ x) w'
theorem data_any {R C : Nat} {s : Bt} {n : Nat} {sc : Value} {w : World} {T : Nat → Prop} {kv pv bv : Value} {ks : List XV} {cs : List Value} {t : Bt} (h : RS R s n sc w) (hm : ML w) (hR : 0 ≠ R) (hC : CSt C T kv pv bv ks cs t w) (hRC : R < C) (hMC : 0 < C) (hs : s.length ≤ 100000) (hl : t.length ≤ 800000) :
    Calls Tryz.prog 122 #[.pointer (some ⟨R, 0, none⟩), .pointer (some ⟨C, 0, none⟩)] w (CnO R C n sc T kv ks cs t w ((toL cdendW s).map fun x => (linesL x.1, x.2))) := by
 cases ht : toL cdendW s with
 | none =>
  refine (data_walk h hm hR hC hRC hMC hs hl s [] false (.inr ⟨ht, rfl, rfl, rfl⟩)).mono ?_
  rintro e w' ⟨rfl, _, _, ho⟩
  exact ⟨ho, rfl⟩
 | some x =>
  obtain ⟨a, r⟩ := x
  refine (data_walk h hm hR hC hRC hMC hs hl a r true (.inl ⟨ht, rfl⟩)).mono ?_
  rintro e w' ⟨rfl, hr, hc, ho⟩
  exact ⟨ho, rfl, hr, hc⟩
theorem index_lt : ∀ s : Bt, Lib.indexByte s 60 = if s.dropWhile ltN = [] then -1 else (((s.takeWhile ltN).length : Nat) : Int)
 | [] => rfl
 | c :: r => by
  have ih := index_lt r
  rw [Lib.indexByte]
  by_cases hc : c = 60
  ·subst hc
   rfl
  ·have hb : ltN c = true := by unfold ltN; rw [beq_false_of_ne hc]; rfl
   rw [beq_false_of_ne hc, List.dropWhile_cons_of_pos hb, List.takeWhile_cons_of_pos hb, ih]
   by_cases h0 : r.dropWhile ltN = []
   ·rw [if_pos h0, if_pos h0]; rfl
   ·rw [if_neg h0, if_neg h0]
    have : (((r.takeWhile ltN).length : Int) == -1) = false := by rw [beq_eq_false_iff_ne]; omega
    rw [this, List.length_cons]
    simp
theorem take_lt (s : Bt) : s.take (s.takeWhile ltN).length = s.takeWhile ltN ∧ s.drop (s.takeWhile ltN).length = s.dropWhile ltN := by
 have h := List.takeWhile_append_dropWhile (p := ltN) (l := s)
 constructor
 ·conv => lhs; rw [← h]
  rw [List.take_left']
  rw [h]
 ·conv => lhs; rw [← h]
  rw [List.drop_left']
  rw [h]
set_option maxRecDepth 100000 in
set_option maxHeartbeats 4000000 in
theorem text_no {R C : Nat} {s : Bt} {n : Nat} {sc : Value} {w : World} (h : RS R s n sc w) (hm : ML w) (hs : s.length ≤ 100000) (hn : (toL cdendW (s.takeWhile ltN)).isSome = true ∨ s.dropWhile ltN = []) :
    Calls Tryz.prog 124 #[.pointer (some ⟨R, 0, none⟩), .pointer (some ⟨C, 0, none⟩)] w (fun e w' => e = .returned (.bool false) ∧ w = w') := by
 have c0 := h.c0
 have HI := hid (libIndexByte (bs s) 60 w)
 rw [bs_list, show ((60 : Int).toNat.toUInt8) = 60 from rfl, index_lt] at HI
 have hx := List.takeWhile_append_dropWhile (p := ltN) (l := s)
 have hl : (s.takeWhile ltN).length ≤ s.length := (List.takeWhile_prefix ltN).length_le
 by_cases h0 : s.dropWhile ltN = []
 ·rw [if_pos h0] at HI
  clear h hm hn hx hl h0
  go_enter Tryz.func124, Tryz.ntmps124
  go_wp2_with (go_at_call 141; (with_reducible refine HI.out.mono ?_); rintro e w1 ⟨rfl, rfl⟩)
  go_ret
  exact ⟨rfl, rfl⟩
 ·rw [if_neg h0] at HI
  have hc := hn.resolve_right h0
  have HC : Hid (Calls Tryz.prog 90 #[.string (bs (s.takeWhile ltN)), .string ⟨#[93, 93, 62]⟩] w (fun e w' => e = .returned (.bool true) ∧ w = w')) := hid (by
   have := contL_any cdendW (s.takeWhile ltN) (by decide) (by omega) w hm
   rw [hc] at this
   exact this)
  have hsl := fun W => slice_front s (s.takeWhile ltN).length hl W
  rw [(take_lt s).1] at hsl
  generalize s.takeWhile ltN = a at *
  obtain ⟨k, hk⟩ : ∃ k, a.length = k := ⟨_, rfl⟩
  rw [hk] at HI hsl
  have hk0 : ¬ ((k : Int) < 0) := by omega
  have hk1 : (0 : Int) ≤ (k : Int) := by omega
  clear h hm hn hx hl h0 hc hk
  go_enter Tryz.func124, Tryz.ntmps124
  go_wp2_with (first
   | (go_at_call 141; (with_reducible refine HI.out.mono ?_); rintro e w1 ⟨rfl, rfl⟩)
   | (go_at_call 90; (with_reducible refine HC.out.mono ?_); rintro e w1 ⟨rfl, rfl⟩))
  go_ret
  exact ⟨rfl, rfl⟩
set_option maxRecDepth 100000 in
set_option maxHeartbeats 4000000 in
theorem text_go {R C : Nat} {s : Bt} {n : Nat} {sc : Value} {w : World} {T : Nat → Prop} {kv pv bv : Value} {ks : List XV} {cs : List Value} {t : Bt} (h : RS R s n sc w) (hm : ML w) (hC : CSt C T kv pv bv ks cs t w) (hRC : R < C) (hs : s.length ≤ 100000) (hl : t.length ≤ 800000)
    (hn : ¬ ((toL cdendW (s.takeWhile ltN)).isSome = true ∨ s.dropWhile ltN = [])) (x : Bt) (ok : Bool) (hx : (refsL (linesL (s.takeWhile ltN)) = some x ∧ ok = true) ∨ (refsL (linesL (s.takeWhile ltN)) = none ∧ x = [] ∧ ok = false)) :
    Calls Tryz.prog 124 #[.pointer (some ⟨R, 0, none⟩), .pointer (some ⟨C, 0, none⟩)] w (fun e w' => e = .returned (.bool ok) ∧ RS R (s.dropWhile ltN) n sc w' ∧ (∃ pv' bv', CSt C T kv pv' bv' ks cs (t ++ x) w') ∧ Off (fun b => b = R ∨ C ≤ b) w w') := by
 have c0 := h.c0
 have HI := hid (libIndexByte (bs s) 60 w)
 rw [bs_list, show ((60 : Int).toNat.toUInt8) = 60 from rfl, index_lt, if_neg (fun e => hn (.inr e))] at HI
 have hll : (s.takeWhile ltN).length ≤ s.length := (List.takeWhile_prefix ltN).length_le
 have hc : (toL cdendW (s.takeWhile ltN)).isSome = false := by
  cases hq : (toL cdendW (s.takeWhile ltN)).isSome with
  | false => rfl
  | true => exact absurd (.inl hq) hn
 have HC : Hid (Calls Tryz.prog 90 #[.string (bs (s.takeWhile ltN)), .string ⟨#[93, 93, 62]⟩] w (fun e w' => e = .returned (.bool false) ∧ w = w')) := hid (by
  have := contL_any cdendW (s.takeWhile ltN) (by decide) (by omega) w hm
  rw [hc] at this
  exact this)
 have HU : Hid (Calls Tryz.prog 139 #[.string (bs (s.takeWhile ltN))] w (fun e w' => e = .returned (.tuple #[.string (bs x), .bool ok]) ∧ Below w.heap.size w w')) := hid (by
  refine (unwritten_any (s.takeWhile ltN) (by omega) w hm).mono ?_
  rintro e w' ⟨rfl, hb⟩
  rcases hx with ⟨e1, e2⟩ | ⟨e1, e2, e3⟩
  ·rw [e1, e2]; exact ⟨rfl, hb⟩
  ·rw [e1, e2, e3]; exact ⟨rfl, hb⟩)
 have hxl : x.length ≤ 100000 := by
  rcases hx with ⟨e1, _⟩ | ⟨_, e2, _⟩
  ·have h1 := refs_len _ _ x (Nat.le_refl _) e1
   have h2 := lines_le (s.takeWhile ltN)
   omega
  ·rw [e2]; exact Nat.zero_le _
 have HW := hid (fun W kv pv bv (hW : CSt C T kv pv bv ks cs t W) => writeC_any hW x (by omega))
 have hsl := fun W => slice_front s (s.takeWhile ltN).length hll W
 have hsb := fun W => slice_back8 s (s.takeWhile ltN).length hll W
 rw [(take_lt s).1] at hsl
 rw [(take_lt s).2] at hsb
 generalize s.takeWhile ltN = a at *
 generalize s.dropWhile ltN = d at *
 obtain ⟨k, hk⟩ : ∃ k, a.length = k := ⟨_, rfl⟩
 rw [hk] at HI hsl hsb
 have hk0 : ¬ ((k : Int) < 0) := by omega
 have hk1 : (0 : Int) ≤ (k : Int) := by omega
 have H0 := hid h
 have HK := hid hC
 clear h hm hn hx hll hc hk hC
 go_enter Tryz.func124, Tryz.ntmps124
 go_wp2_with (first
  | (go_at_call 141; (with_reducible refine HI.out.mono ?_); rintro e w1 ⟨rfl, rfl⟩)
  | (go_at_call 90; (with_reducible refine HC.out.mono ?_); rintro e w1 ⟨rfl, rfl⟩)
  | (go_at_call 139; (with_reducible refine HU.out.mono ?_); rintro e w1 ⟨rfl, b1⟩; have HR1 := hid (H0.out.below b1); have HK1 := hid (HK.out.below b1); have HB1 := hid b1; clear b1)
  | (go_at_call 66; (with_reducible refine (HW.out _ _ _ _ HK1.out).mono ?_); rintro e w2 ⟨⟨m, rfl⟩, ⟨pv2, bv2, C2⟩, o2⟩; have r2 := HR1.out.off o2 (fun e => by omega); have c1 := r2.c0; have f1 := r2.free 0; have HR2 := hid r2; have HK2 := hid C2; have HO2 := hid (And.intro HB1.out o2); clear r2 C2 o2 HR1 HK1))
 have HR3 := hid (HR2.out.set0 d)
 have HO3 : Hid (Off (fun b => b = R ∨ C ≤ b) _ (w2.setCell ⟨R, 0, none⟩ (.string (bs d)))) := hid (((Off.ofB HO2.out.1).then (HO2.out.2.mono (fun b h => .inr h))).then ((off_set8 w2 R 0 _).mono (fun b h => .inl h)))
 have HK3 := hid (HK2.out.off (off_set8 w2 R 0 (.string (bs d))) (fun b e => by omega))
 go_ret
 exact ⟨rfl, HR3.out, ⟨_, _, HK3.out⟩, HO3.out⟩
theorem text_any8 {R C : Nat} {s : Bt} {n : Nat} {sc : Value} {w : World} {T : Nat → Prop} {kv pv bv : Value} {ks : List XV} {cs : List Value} {t : Bt} (h : RS R s n sc w) (hm : ML w) (hC : CSt C T kv pv bv ks cs t w) (hRC : R < C) (hs : s.length ≤ 100000) (hl : t.length ≤ 800000) :
    Calls Tryz.prog 124 #[.pointer (some ⟨R, 0, none⟩), .pointer (some ⟨C, 0, none⟩)] w (CnO R C n sc T kv ks cs t w (textL s)) := by
 by_cases hn : (toL cdendW (s.takeWhile ltN)).isSome = true ∨ s.dropWhile ltN = []
 ·refine (text_no h hm hs hn).mono ?_
  rintro e w' ⟨rfl, rfl⟩
  refine ⟨Off.refl _ _, ?_⟩
  unfold textL
  rw [if_pos hn]
 ·cases hx : refsL (linesL (s.takeWhile ltN)) with
  | none =>
   refine (text_go h hm hC hRC hs hl hn [] false (.inr ⟨hx, rfl, rfl⟩)).mono ?_
   rintro e w' ⟨rfl, _, _, ho⟩
   refine ⟨ho, ?_⟩
   unfold textL
   rw [if_neg hn, hx]
   rfl
  | some x =>
   refine (text_go h hm hC hRC hs hl hn x true (.inl ⟨hx, rfl⟩)).mono ?_
   rintro e w' ⟨rfl, hr, hc, ho⟩
   refine ⟨ho, ?_⟩
   unfold textL
   rw [if_neg hn, hx]
   exact ⟨rfl, hr, hc⟩
theorem bs_app (a b : Bt) : bs (a ++ b) = bs a ++ bs b := by
 apply ByteArray.ext
 apply Array.ext'
 simp [bs]
set_option maxRecDepth 100000 in
theorem written_any (nm : XN) (w : World) (h1 : nm.1.length ≤ 1000000) (h2 : nm.2.length ≤ 1000000) : Calls Tryz.prog 107 #[.agg #[sV nm.1, sV nm.2]] w (fun e w' => e = .returned (.string (bs (writtenX nm))) ∧ Below w.heap.size w w') := by
 have hB := below_alloc8 w (.cells #[sV nm.1, sV nm.2] TQu (0, 0))
 have HB := hid hB
 have z1 := bs_size nm.1
 have z2 := bs_size nm.2
 have hX := Blk.new (.cells #[sV nm.1, sV nm.2] TQu (0, 0)) w
 have x0 := hX.cell 0
 have x1 := hX.cell 1
 clear hB hX
 by_cases h0 : nm.1 = []
 ·have HE : Hid (writtenX nm = nm.2) := hid (by unfold writtenX; rw [if_pos h0])
  have hs : (bs nm.1).toList = [] := by rw [bs_toList]; exact h0
  clear h0
  go_enter Tryz.func107, Tryz.ntmps107
  go_wp2
  go_ret
  exact ⟨by rw [HE.out]; rfl, HB.out⟩
 ·have HE : Hid (writtenX nm = nm.1 ++ ([58] ++ nm.2)) := hid (by unfold writtenX; rw [if_neg h0]; rfl)
  have hs : ¬ (bs nm.1).toList = [] := by rw [bs_toList]; exact h0
  have hs2 : (bs nm.1).toList.isEmpty = false := by rw [bs_toList]; cases hq : nm.1 with | nil => exact absurd hq h0 | cons => rfl
  clear h0
  go_enter Tryz.func107, Tryz.ntmps107
  go_wp2
  go_ret
  refine ⟨?_, HB.out⟩
  rw [HE.out, bs_app, bs_app, ← ByteArray.append_assoc]
  rfl
set_option maxRecDepth 100000 in
theorem endOf_any {R : Nat} {s : Bt} {n : Nat} {sc : Value} {w : World} (h : RS R s n sc w) (nm : XN) (A : Option Addr) (m c : Nat) (cl : Bool) (h1 : nm.1.length ≤ 1000000) (h2 : nm.2.length ≤ 1000000) :
    Calls Tryz.prog 83 #[.pointer (some ⟨R, 0, none⟩), .agg #[sV nm.1, sV nm.2, .slice A m c, .bool cl]] w (RdO R n sc w (endX nm s)) := by
 obtain ⟨wX, hwX⟩ : ∃ x, writtenX nm = x := ⟨_, rfl⟩
 have HW := hid (fun W => written_any nm W h1 h2)
 rw [hwX] at HW
 have hB := below_alloc8 w (.cells #[sV nm.1, sV nm.2, .slice A m c, .bool cl] TTg (0, 0))
 have HB := hid hB
 have hX := Blk.new (.cells #[sV nm.1, sV nm.2, .slice A m c, .bool cl] TTg (0, 0)) w
 have x0 := hX.cell 0
 have x1 := hX.cell 1
 have x2 := hX.cell 2
 have x3 := hX.cell 3
 have HR := hid (h.below hB)
 have HE : Hid (endX nm s = match wordL wX s with | none => none | some r => wordL [62] (blanksL r)) := hid (by unfold endX; rw [hwX]; cases wordL wX s <;> rfl)
 clear hwX h hX hB
 cases hw : wordL wX s with
 | none =>
  have HT := hid (fun W (hW : RS R s n sc W) => take_no hW hw)
  have HO : Hid (endX nm s = none) := hid (by rw [HE.out, hw])
  clear hw HE
  go_enter Tryz.func83, Tryz.ntmps83
  go_wp2_with (first
   | (go_at_call 107; (with_reducible refine (HW.out _).mono ?_); rintro e w1 ⟨rfl, b1⟩; have HR1 := hid (HR.out.below b1); have HO1 := hid ((Off.ofB (F := fun b => b = R) HB.out).thenB b1); clear b1)
   | (go_at_call 52; (with_reducible refine (HT.out _ HR1.out).mono ?_); rintro e w2 ⟨rfl, _, o2⟩; have HO2 := hid (HO1.out.then o2); clear o2))
  go_ret
  exact RdO.bad HO.out HO2.out
 | some r =>
  have HT := hid (fun W (hW : RS R s n sc W) => take_yes hW hw)
  have HK := hid (fun W (hW : RS R r n sc W) => skip_any hW)
  have HO : Hid (endX nm s = wordL [62] (blanksL r)) := hid (by rw [HE.out, hw])
  obtain ⟨q, hq⟩ : ∃ q, wordL [62] (blanksL r) = q := ⟨_, rfl⟩
  have HG : Hid (∀ W, RS R (blanksL r) n sc W → Calls Tryz.prog 52 #[.pointer (some ⟨R, 0, none⟩), .string ⟨#[62]⟩] W (fun e w' => e = .returned (.bool q.isSome) ∧ RS R (q.getD (blanksL r)) n sc w' ∧ Off (fun b => b = R) W w')) := hid (fun W hW => by
   have := take_any hW [62]
   rw [hq] at this
   exact this)
  rw [hq] at HO
  clear hw HE hq
  go_enter Tryz.func83, Tryz.ntmps83
  go_wp2_with (first
   | (go_at_call 107; (with_reducible refine (HW.out _).mono ?_); rintro e w1 ⟨rfl, b1⟩; have HR1 := hid (HR.out.below b1); have HO1 := hid ((Off.ofB (F := fun b => b = R) HB.out).thenB b1); clear b1)
   | (go_at_call 52; (with_reducible refine (HT.out _ HR1.out).mono ?_); rintro e w2 ⟨rfl, r2, o2⟩; have HR2 := hid r2; have HO2 := hid (HO1.out.then o2); clear o2 r2 HR1)
   | (go_at_call 76; (with_reducible refine (HK.out _ HR2.out).mono ?_); rintro e w3 ⟨rfl, r3, o3⟩; have HR3 := hid r3; have HO3 := hid (HO2.out.then o3); clear o3 r3 HR2)
   | (go_at_call 52; (with_reducible refine (HG.out _ HR3.out).mono ?_); rintro e w4 ⟨rfl, r4, o4⟩; have HR4 := hid r4; have HO4 := hid (HO3.out.then o4); clear o4 r4))
  go_ret
  refine ⟨by rw [HO.out]; rfl, fun x hx => ?_, HO4.out⟩
  rw [HO.out] at hx
  subst hx
  exact HR4.out
abbrev zNV : Value := .agg #[.string ⟨#[]⟩, .string ⟨#[]⟩, .slice none 0 0, .slice none 0 0, .string ⟨#[]⟩]
structure EIn (R S cap d : Nat) (l : XS) (s : Bt) (w : World) : Prop where
 rd : RS R s d (ScV S l.length cap) w
 sc : ScR S cap l w
 ml : ML w
 neR : 0 ≠ R
 neS : 0 ≠ S
 ne : R ≠ S
 len : l.length + s.length ≤ 150000
 short : s.length ≤ 70000
 small : SmallS l
 deep : d ≤ 24
def EOut (R S cap d : Nat) (l : XS) (w : World) (o : Except Int (XV × Bt)) (e : Ending) (w' : World) : Prop :=
 Off (fun b => b = R ∨ b = S) w w' ∧ match o with
 | .error k => k ≠ 0 ∧ e = .returned (.tuple #[zNV, .int .i64 k])
 | .ok (v, r) => RS R r d (ScV S l.length cap) w' ∧ KeepS S l.length w w' ∧ ∃ x, e = .returned (.tuple #[x, .int .i64 0]) ∧ XR w' (fun b => w.heap.size ≤ b ∧ b < w'.heap.size) v x
def ElemC (n : Nat) : Prop := ∀ (R S cap d : Nat) (l : XS) (s : Bt) (w : World), s.length ≤ n → EIn R S cap d l s w →
 Calls Tryz.prog 53 #[.pointer (some ⟨R, 0, none⟩)] w (EOut R S cap d l w (elemX d l s))
structure PK (R S C : Nat) : Prop where
 mR : 0 ≠ R
 mS : 0 ≠ S
 mC : 0 < C
 rs : R ≠ S
 rc : R < C
 sc : S < C
structure PSt (R S cap d C : Nat) (l : XS) (s : Bt) (T : Nat → Prop) (kv pv bv : Value) (ks : List XV) (cs : List Value) (t : Bt) (w W : World) : Prop where
 rd : RS R s d (ScV S l.length cap) W
 sc : ScR S cap l W
 ml : ML W
 cn : CSt C T kv pv bv ks cs t W
 off : Off (fun b => b = R ∨ b = S ∨ C ≤ b) w W
 keep : KeepS S l.length w W
section
variable {R S cap d C : Nat} {l : XS} {s s' : Bt} {T : Nat → Prop} {kv pv bv : Value} {ks : List XV} {cs : List Value} {t : Bt} {w W W' : World}
theorem PSt.rdr (h : PSt R S cap d C l s T kv pv bv ks cs t w W) (k : PK R S C) (hr : RS R s' d (ScV S l.length cap) W') (ho : Off (fun b => b = R) W W') : PSt R S cap d C l s' T kv pv bv ks cs t w W' :=
 ⟨hr, h.sc.off ho (fun e => k.rs e.symm), h.ml.rd k.mR ho, h.cn.off ho (fun b e => by rw [e]; exact k.rc), h.off.then (ho.mono (fun b e => .inl e)), h.keep.trans (KeepS.off ho (fun e => k.rs e.symm))⟩
theorem PSt.cont {T' : Nat → Prop} {kv' pv' bv' : Value} {ks' : List XV} {cs' : List Value} {t' : Bt} (h : PSt R S cap d C l s T kv pv bv ks cs t w W) (k : PK R S C) (hr : RS R s' d (ScV S l.length cap) W') (ho : Off (fun b => b = R ∨ C ≤ b) W W') (hc : CSt C T' kv' pv' bv' ks' cs' t' W') : PSt R S cap d C l s' T' kv' pv' bv' ks' cs' t' w W' :=
 ⟨hr, h.sc.off ho (fun e => by rcases e with e | e; exact k.rs e.symm; have := k.sc; omega), h.ml.off ho (fun e => by rcases e with e | e; exact k.mR e; have := k.mC; omega), hc, h.off.then (ho.mono (fun b e => e.elim .inl (fun e => .inr (.inr e)))), h.keep.trans (KeepS.off ho (fun e => by rcases e with e | e; exact k.rs e.symm; have := k.sc; omega))⟩
theorem PSt.elem (h : PSt R S cap d C l s T kv pv bv ks cs t w W) (k : PK R S C) (hr : RS R s' d (ScV S l.length cap) W') (ho : Off (fun b => b = R ∨ b = S) W W') (hk : KeepS S l.length W W') : PSt R S cap d C l s' T kv pv bv ks cs t w W' :=
 ⟨hr, h.sc.keep hk, h.ml.off ho (fun e => by rcases e with e | e; exact k.mR e; exact k.mS e), h.cn.off ho (fun b e => by rcases e with e | e; rw [e]; exact k.rc; rw [e]; exact k.sc), h.off.then (ho.mono (fun b e => e.elim .inl (fun e => .inr (.inl e)))), h.keep.trans hk⟩
theorem PSt.ein (h : PSt R S cap d C l s T kv pv bv ks cs t w W) (k : PK R S C) (h1 : l.length + s.length ≤ 150000) (h2 : s.length ≤ 70000) (h3 : SmallS l) (h4 : d ≤ 24) : EIn R S cap d l s W :=
 ⟨h.rd, h.sc, h.ml, k.mR, k.mS, k.rs, h1, h2, h3, h4⟩
theorem CSt.more (h : CSt C T kv pv bv ks cs t W) (h' : CSt C T kv pv bv ks cs t W') : CSt C (fun b => T b ∨ (W.heap.size ≤ b ∧ b < W'.heap.size)) kv pv bv ks cs t W' :=
 ⟨h'.blk, h'.addr, h'.kids, XRs.mono (fun _ h => .inl h) _ _ h'.read, h'.buf, fun b hb => by
  rcases hb with hb | hb
  ·exact h'.apart b hb
  ·have h1 := h.blk.lt
   exact ⟨by omega, hb.2, fun e => by have := (World.ownsRow.lt h.kids b e).2; omega, fun e => by have := (World.ownsRow.lt h.buf b e).2; omega⟩⟩
end
def POut (R S cap d C : Nat) (l : XS) (w : World) (o : Except Int (Bt × List XV × Bt)) (e : Ending) (w' : World) : Prop :=
 match o with
 | .error k => k ≠ 0 ∧ e = .returned (.int .i64 k) ∧ Off (fun b => b = R ∨ b = S ∨ C ≤ b) w w'
 | .ok (r, ks, t) => e = .returned (.int .i64 0) ∧ ∃ T kv pv bv cs, PSt R S cap d C l r T kv pv bv ks cs t w w'
theorem POut.bad {R S cap d C : Nat} {l : XS} {w w' : World} {o : Except Int (Bt × List XV × Bt)} {k : Int} (h : o = .error k) (hk : k ≠ 0) (ho : Off (fun b => b = R ∨ b = S ∨ C ≤ b) w w') : POut R S cap d C l w o (.returned (.int .i64 k)) w' := by
 subst h
 exact ⟨hk, rfl, ho⟩
theorem POut.good {R S cap d C : Nat} {l : XS} {w w' : World} {o : Except Int (Bt × List XV × Bt)} {r : Bt} {ks : List XV} {t : Bt} {T : Nat → Prop} {kv pv bv : Value} {cs : List Value} (h : o = .ok (r, ks, t)) (hp : PSt R S cap d C l r T kv pv bv ks cs t w w') : POut R S cap d C l w o (.returned (.int .i64 0)) w' := by
 subst h
 exact ⟨rfl, _, _, _, _, _, hp⟩
set_option maxRecDepth 100000 in
set_option maxHeartbeats 40000000 in
theorem part_any {N : Nat} (hE : ElemC N) {R S cap d C : Nat} {l : XS} {s : Bt} {T : Nat → Prop} {kv pv bv : Value} {ks : List XV} {cs : List Value} {t : Bt} {w w0 : World} (hP : PSt R S cap d C l s T kv pv bv ks cs t w0 w) (hK : PK R S C) (hN : s.length ≤ N + 1)
    (h1 : l.length + s.length ≤ 150000) (h2 : s.length ≤ 70000) (h3 : SmallS l) (h4 : d ≤ 24) (h5 : 2 * ks.length + t.length ≤ 500000) :
    Calls Tryz.prog 105 #[.pointer (some ⟨R, 0, none⟩), .pointer (some ⟨C, 0, none⟩)] w (POut R S cap d C l w0 (partX d l s ks t)) := by
 have HP0 := hid hP
 have HK := hid hK
 have hmR := hK.mR
 have hmC := hK.mC
 have hrc := hK.rc
 have hX : partX d l s ks t = partX d l s ks t := rfl
 conv at hX => rhs; unfold partX
 have HX := hid hX
 have HE := hid hE
 have HS := hid h3
 clear hP hK hX hE h3
 cases w1 : wordL [60, 33, 45, 45] s with
 | some r =>
  have hl1 := word_len w1
  simp only [List.length_cons, List.length_nil] at hl1
  have HT1 : Hid (∀ W, RS R s d (ScV S l.length cap) W → Calls Tryz.prog 52 #[.pointer (some ⟨R, 0, none⟩), .string ⟨#[60, 33, 45, 45]⟩] W (fun e w' => e = .returned (.bool true) ∧ RS R r d (ScV S l.length cap) w' ∧ Off (fun b => b = R) W w')) := hid (fun W hW => take_yes hW w1)
  have HR := hid (fun W (hW : RS R r d (ScV S l.length cap) W) (hm : ML W) => remark_any hW hm (by omega))
  cases hr : remL r with
  | none =>
   have HO : Hid (partX d l s ks t = .error 70) := hid (by rw [HX.out]; simp only [w1, hr])
   rw [hr] at HR
   unfold RdO at HR
   clear w1 hr HX
   go_enter Tryz.func105, Tryz.ntmps105
   go_wp2_with (first
    | (go_at_call 52; (with_reducible refine (HT1.out _ HP0.out.rd).mono ?_); rintro e v1 ⟨rfl, r1, o1⟩; have HP1 := hid (HP0.out.rdr HK.out r1 o1); clear r1 o1 HP0)
    | (go_at_call 77; (with_reducible refine (HR.out _ HP1.out.rd HP1.out.ml).mono ?_); rintro e v9 ⟨rfl, _, o9⟩; have HO9 := hid (HP1.out.off.then (o9.mono (fun b e => .inl e))); clear o9))
   go_ret
   exact POut.bad HO.out (by decide) HO9.out
  | some q =>
   have HO : Hid (partX d l s ks t = .ok (q, ks, t)) := hid (by rw [HX.out]; simp only [w1, hr])
   rw [hr] at HR
   unfold RdO at HR
   clear w1 hr HX
   go_enter Tryz.func105, Tryz.ntmps105
   go_wp2_with (first
    | (go_at_call 52; (with_reducible refine (HT1.out _ HP0.out.rd).mono ?_); rintro e v1 ⟨rfl, r1, o1⟩; have HP1 := hid (HP0.out.rdr HK.out r1 o1); clear r1 o1 HP0)
    | (go_at_call 77; (with_reducible refine (HR.out _ HP1.out.rd HP1.out.ml).mono ?_); rintro e v9 ⟨rfl, r9, o9⟩; have HP9 := hid (HP1.out.rdr HK.out (r9 q rfl) o9); clear o9 r9))
   go_ret
   exact POut.good HO.out HP9.out
 | none =>
  have HT1 : Hid (∀ W, RS R s d (ScV S l.length cap) W → Calls Tryz.prog 52 #[.pointer (some ⟨R, 0, none⟩), .string ⟨#[60, 33, 45, 45]⟩] W (fun e w' => e = .returned (.bool false) ∧ RS R s d (ScV S l.length cap) w' ∧ Off (fun b => b = R) W w')) := hid (fun W hW => take_no hW w1)
  cases w2 : wordL [60, 63] s with
  | some r =>
   have hl1 := word_len w2
   simp only [List.length_cons, List.length_nil] at hl1
   have HT2 : Hid (∀ W, RS R s d (ScV S l.length cap) W → Calls Tryz.prog 52 #[.pointer (some ⟨R, 0, none⟩), .string ⟨#[60, 63]⟩] W (fun e w' => e = .returned (.bool true) ∧ RS R r d (ScV S l.length cap) w' ∧ Off (fun b => b = R) W w')) := hid (fun W hW => take_yes hW w2)
   have HR := hid (fun W (hW : RS R r d (ScV S l.length cap) W) (hm : ML W) => instr_any hW hm hmR (by omega))
   cases hr : insL r with
   | none =>
    have HO : Hid (partX d l s ks t = .error 70) := hid (by rw [HX.out]; simp only [w1, w2, hr])
    rw [hr] at HR
    unfold RdO at HR
    clear w1 w2 hr HX
    go_enter Tryz.func105, Tryz.ntmps105
    go_wp2_with (first
     | (go_at_call 52; (with_reducible refine (HT1.out _ HP0.out.rd).mono ?_); rintro e v1 ⟨rfl, r1, o1⟩; have HP1 := hid (HP0.out.rdr HK.out r1 o1); clear r1 o1 HP0)
     | (go_at_call 52; (with_reducible refine (HT2.out _ HP1.out.rd).mono ?_); rintro e v2 ⟨rfl, r1, o1⟩; have HP2 := hid (HP1.out.rdr HK.out r1 o1); clear r1 o1 HP1)
     | (go_at_call 78; (with_reducible refine (HR.out _ HP2.out.rd HP2.out.ml).mono ?_); rintro e v9 ⟨rfl, _, o9⟩; have HO9 := hid (HP2.out.off.then (o9.mono (fun b e => .inl e))); clear o9))
    go_ret
    exact POut.bad HO.out (by decide) HO9.out
   | some q =>
    have HO : Hid (partX d l s ks t = .ok (q, ks, t)) := hid (by rw [HX.out]; simp only [w1, w2, hr])
    rw [hr] at HR
    unfold RdO at HR
    clear w1 w2 hr HX
    go_enter Tryz.func105, Tryz.ntmps105
    go_wp2_with (first
     | (go_at_call 52; (with_reducible refine (HT1.out _ HP0.out.rd).mono ?_); rintro e v1 ⟨rfl, r1, o1⟩; have HP1 := hid (HP0.out.rdr HK.out r1 o1); clear r1 o1 HP0)
     | (go_at_call 52; (with_reducible refine (HT2.out _ HP1.out.rd).mono ?_); rintro e v2 ⟨rfl, r1, o1⟩; have HP2 := hid (HP1.out.rdr HK.out r1 o1); clear r1 o1 HP1)
     | (go_at_call 78; (with_reducible refine (HR.out _ HP2.out.rd HP2.out.ml).mono ?_); rintro e v9 ⟨rfl, r9, o9⟩; have HP9 := hid (HP2.out.rdr HK.out (r9 q rfl) o9); clear o9 r9))
    go_ret
    exact POut.good HO.out HP9.out
  | none =>
   have HT2 : Hid (∀ W, RS R s d (ScV S l.length cap) W → Calls Tryz.prog 52 #[.pointer (some ⟨R, 0, none⟩), .string ⟨#[60, 63]⟩] W (fun e w' => e = .returned (.bool false) ∧ RS R s d (ScV S l.length cap) w' ∧ Off (fun b => b = R) W w')) := hid (fun W hW => take_no hW w2)
   cases w3 : wordL cdataW s with
   | some r =>
    have hl1 := word_len w3
    simp only [cdataW, List.length_cons, List.length_nil] at hl1
    have HT3 : Hid (∀ W, RS R s d (ScV S l.length cap) W → Calls Tryz.prog 52 #[.pointer (some ⟨R, 0, none⟩), .string ⟨#[60, 33, 91, 67, 68, 65, 84, 65, 91]⟩] W (fun e w' => e = .returned (.bool true) ∧ RS R r d (ScV S l.length cap) w' ∧ Off (fun b => b = R) W w')) := hid (fun W hW => take_yes hW w3)
    have HR := hid (fun W T kv pv bv cs (hW : RS R r d (ScV S l.length cap) W) (hm : ML W) (hc : CSt C T kv pv bv ks cs t W) => data_any hW hm hmR hc hrc hmC (by omega) (by omega))
    cases hr : toL cdendW r with
    | none =>
     have HO : Hid (partX d l s ks t = .error 70) := hid (by rw [HX.out]; simp only [w1, w2, w3, hr])
     rw [hr] at HR
     unfold CnO at HR
     simp only [Option.map_none] at HR
     clear w1 w2 w3 hr HX
     go_enter Tryz.func105, Tryz.ntmps105
     go_wp2_with (first
      | (go_at_call 52; (with_reducible refine (HT1.out _ HP0.out.rd).mono ?_); rintro e v1 ⟨rfl, r1, o1⟩; have HP1 := hid (HP0.out.rdr HK.out r1 o1); clear r1 o1 HP0)
      | (go_at_call 52; (with_reducible refine (HT2.out _ HP1.out.rd).mono ?_); rintro e v2 ⟨rfl, r1, o1⟩; have HP2 := hid (HP1.out.rdr HK.out r1 o1); clear r1 o1 HP1)
      | (go_at_call 52; (with_reducible refine (HT3.out _ HP2.out.rd).mono ?_); rintro e v3 ⟨rfl, r1, o1⟩; have HP3 := hid (HP2.out.rdr HK.out r1 o1); clear r1 o1 HP2)
      | (go_at_call 122; (with_reducible refine (HR.out _ _ _ _ _ _ HP3.out.rd HP3.out.ml HP3.out.cn).mono ?_); rintro e v9 ⟨o9, rfl⟩; have HO9 := hid (HP3.out.off.then (o9.mono (fun b e => e.elim .inl (fun e => .inr (.inr e))))); clear o9))
     go_ret
     exact POut.bad HO.out (by decide) HO9.out
    | some q =>
     obtain ⟨a, b⟩ := q
     have HO : Hid (partX d l s ks t = .ok (b, ks, t ++ linesL a)) := hid (by rw [HX.out]; simp only [w1, w2, w3, hr])
     rw [hr] at HR
     unfold CnO at HR
     simp only [Option.map_some] at HR
     clear w1 w2 w3 hr HX
     go_enter Tryz.func105, Tryz.ntmps105
     go_wp2_with (first
      | (go_at_call 52; (with_reducible refine (HT1.out _ HP0.out.rd).mono ?_); rintro e v1 ⟨rfl, r1, o1⟩; have HP1 := hid (HP0.out.rdr HK.out r1 o1); clear r1 o1 HP0)
      | (go_at_call 52; (with_reducible refine (HT2.out _ HP1.out.rd).mono ?_); rintro e v2 ⟨rfl, r1, o1⟩; have HP2 := hid (HP1.out.rdr HK.out r1 o1); clear r1 o1 HP1)
      | (go_at_call 52; (with_reducible refine (HT3.out _ HP2.out.rd).mono ?_); rintro e v3 ⟨rfl, r1, o1⟩; have HP3 := hid (HP2.out.rdr HK.out r1 o1); clear r1 o1 HP2)
      | (go_at_call 122; (with_reducible refine (HR.out _ _ _ _ _ _ HP3.out.rd HP3.out.ml HP3.out.cn).mono ?_); rintro e v9 ⟨o9, rfl, r9, ⟨pv9, bv9, c9⟩⟩; have HP9 := hid (HP3.out.cont HK.out r9 o9 c9); clear o9 r9 c9))
     go_ret
     exact POut.good HO.out HP9.out
   | none =>
    have HT3 : Hid (∀ W, RS R s d (ScV S l.length cap) W → Calls Tryz.prog 52 #[.pointer (some ⟨R, 0, none⟩), .string ⟨#[60, 33, 91, 67, 68, 65, 84, 65, 91]⟩] W (fun e w' => e = .returned (.bool false) ∧ RS R s d (ScV S l.length cap) w' ∧ Off (fun b => b = R) W w')) := hid (fun W hW => take_no hW w3)
    cases w4 : wordL [60] s with
    | some r =>
     have hl1 := word_len w4
     simp only [List.length_cons, List.length_nil] at hl1
     have HT4 : Hid (∀ W, RS R s d (ScV S l.length cap) W → Calls Tryz.prog 52 #[.pointer (some ⟨R, 0, none⟩), .string ⟨#[60]⟩] W (fun e w' => e = .returned (.bool true) ∧ RS R r d (ScV S l.length cap) w' ∧ Off (fun b => b = R) W w')) := hid (fun W hW => take_yes hW w4)
     have HR := hid (fun W (hW : EIn R S cap d l r W) => HE.out R S cap d l r W (by omega) hW)
     have hIN := fun W (hW : PSt R S cap d C l r T kv pv bv ks cs t w0 W) => hW.ein HK.out (by omega) (by omega) HS.out h4
     have HIN := hid hIN
     clear hIN
     cases hr : elemX d l r with
     | error k =>
      have HO : Hid (partX d l s ks t = .error k) := hid (by rw [HX.out]; simp only [w1, w2, w3, w4, hr])
      rw [hr] at HR
      unfold EOut at HR
      simp only at HR
      clear w1 w2 w3 w4 hr HX
      go_enter Tryz.func105, Tryz.ntmps105
      go_wp2_with (first
       | (go_at_call 52; (with_reducible refine (HT1.out _ HP0.out.rd).mono ?_); rintro e v1 ⟨rfl, r1, o1⟩; have HP1 := hid (HP0.out.rdr HK.out r1 o1); clear r1 o1 HP0)
       | (go_at_call 52; (with_reducible refine (HT2.out _ HP1.out.rd).mono ?_); rintro e v2 ⟨rfl, r1, o1⟩; have HP2 := hid (HP1.out.rdr HK.out r1 o1); clear r1 o1 HP1)
       | (go_at_call 52; (with_reducible refine (HT3.out _ HP2.out.rd).mono ?_); rintro e v3 ⟨rfl, r1, o1⟩; have HP3 := hid (HP2.out.rdr HK.out r1 o1); clear r1 o1 HP2)
       | (go_at_call 52; (with_reducible refine (HT4.out _ HP3.out.rd).mono ?_); rintro e v4 ⟨rfl, r1, o1⟩; have HP4 := hid (HP3.out.rdr HK.out r1 o1); clear r1 o1 HP3)
       | (go_at_call 53; (with_reducible refine (HR.out _ (HIN.out _ HP4.out)).mono ?_); rintro e v9 ⟨o9, hk, rfl⟩; have HO9 := hid (HP4.out.off.then (o9.mono (fun b e => e.elim .inl (fun e => .inr (.inl e))))); clear o9))
      go_ret
      exact POut.bad HO.out hk (HO9.out.thenB (below_alloc8 _ _))
     | ok y =>
      obtain ⟨v, b⟩ := y
      have HO : Hid (partX d l s ks t = .ok (b, allX ks t ++ [v], [])) := hid (by rw [HX.out]; simp only [w1, w2, w3, w4, hr])
      rw [hr] at HR
      unfold EOut at HR
      simp only at HR
      have HA := hid (fun W T kv pv bv cs x (hW : CSt C T kv pv bv ks cs t W) (hx : XR W T v x) => add_any hW hx (by omega))
      clear w1 w2 w3 w4 hr HX
      go_enter Tryz.func105, Tryz.ntmps105
      go_wp2_with (first
       | (go_at_call 52; (with_reducible refine (HT1.out _ HP0.out.rd).mono ?_); rintro e v1 ⟨rfl, r1, o1⟩; have HP1 := hid (HP0.out.rdr HK.out r1 o1); clear r1 o1 HP0)
       | (go_at_call 52; (with_reducible refine (HT2.out _ HP1.out.rd).mono ?_); rintro e v2 ⟨rfl, r1, o1⟩; have HP2 := hid (HP1.out.rdr HK.out r1 o1); clear r1 o1 HP1)
       | (go_at_call 52; (with_reducible refine (HT3.out _ HP2.out.rd).mono ?_); rintro e v3 ⟨rfl, r1, o1⟩; have HP3 := hid (HP2.out.rdr HK.out r1 o1); clear r1 o1 HP2)
       | (go_at_call 52; (with_reducible refine (HT4.out _ HP3.out.rd).mono ?_); rintro e v4 ⟨rfl, r1, o1⟩; have HP4 := hid (HP3.out.rdr HK.out r1 o1); clear r1 o1 HP3)
       | (go_at_call 53; (with_reducible refine (HR.out _ (HIN.out _ HP4.out)).mono ?_); rintro e v9 ⟨o9, r9, k9, x, rfl, hx⟩; obtain ⟨aA, ac, kA, kc, rfl⟩ := xr_one hx; have HP5 := hid (HP4.out.elem HK.out r9 o9 k9); have HC5 := hid (HP4.out.cn.more HP5.out.cn); have HX5 := hid (XR.mono (fun _ h => Or.inr h) _ _ hx : XR v9 (fun b => T b ∨ _) v _); clear o9 r9 k9 hx HP4)
       | (go_at_call 123; (with_reducible refine (HA.out _ _ _ _ _ _ _ (HC5.out.below (below_alloc8 _ _)) (XR.below HX5.out (below_alloc8 _ _))).mono ?_); rintro e v10 ⟨kv9, pv9, bv9, cs9, rfl, c9, o9⟩; have r9 := (HP5.out.rd.below (below_alloc8 _ _)).off o9 (fun e => by omega); have o10 := (Off.ofB (F := fun b => b = R ∨ C ≤ b) (below_alloc8 v9 _)).then (o9.mono (fun b e => .inr e)); have HP9 := hid (HP5.out.cont HK.out r9 o10 c9); clear o9 r9 c9 o10))
      go_ret
      exact POut.good HO.out HP9.out
    | none =>
     have HT4 : Hid (∀ W, RS R s d (ScV S l.length cap) W → Calls Tryz.prog 52 #[.pointer (some ⟨R, 0, none⟩), .string ⟨#[60]⟩] W (fun e w' => e = .returned (.bool false) ∧ RS R s d (ScV S l.length cap) w' ∧ Off (fun b => b = R) W w')) := hid (fun W hW => take_no hW w4)
     have HR := hid (fun W T kv pv bv cs (hW : RS R s d (ScV S l.length cap) W) (hm : ML W) (hc : CSt C T kv pv bv ks cs t W) => text_any8 hW hm hc hrc (by omega) (by omega))
     cases hr : textL s with
     | none =>
      have HO : Hid (partX d l s ks t = .error 70) := hid (by rw [HX.out]; simp only [w1, w2, w3, w4, hr])
      rw [hr] at HR
      unfold CnO at HR
      skip
      clear w1 w2 w3 w4 hr HX
      go_enter Tryz.func105, Tryz.ntmps105
      go_wp2_with (first
       | (go_at_call 52; (with_reducible refine (HT1.out _ HP0.out.rd).mono ?_); rintro e v1 ⟨rfl, r1, o1⟩; have HP1 := hid (HP0.out.rdr HK.out r1 o1); clear r1 o1 HP0)
       | (go_at_call 52; (with_reducible refine (HT2.out _ HP1.out.rd).mono ?_); rintro e v2 ⟨rfl, r1, o1⟩; have HP2 := hid (HP1.out.rdr HK.out r1 o1); clear r1 o1 HP1)
       | (go_at_call 52; (with_reducible refine (HT3.out _ HP2.out.rd).mono ?_); rintro e v3 ⟨rfl, r1, o1⟩; have HP3 := hid (HP2.out.rdr HK.out r1 o1); clear r1 o1 HP2)
       | (go_at_call 52; (with_reducible refine (HT4.out _ HP3.out.rd).mono ?_); rintro e v4 ⟨rfl, r1, o1⟩; have HP4 := hid (HP3.out.rdr HK.out r1 o1); clear r1 o1 HP3)
       | (go_at_call 124; (with_reducible refine (HR.out _ _ _ _ _ _ HP4.out.rd HP4.out.ml HP4.out.cn).mono ?_); rintro e v9 ⟨o9, rfl⟩; have HO9 := hid (HP4.out.off.then (o9.mono (fun b e => e.elim .inl (fun e => .inr (.inr e))))); clear o9))
      go_ret
      exact POut.bad HO.out (by decide) HO9.out
     | some q =>
      obtain ⟨a, b⟩ := q
      have HO : Hid (partX d l s ks t = .ok (b, ks, t ++ a)) := hid (by rw [HX.out]; simp only [w1, w2, w3, w4, hr])
      rw [hr] at HR
      unfold CnO at HR
      skip
      clear w1 w2 w3 w4 hr HX
      go_enter Tryz.func105, Tryz.ntmps105
      go_wp2_with (first
       | (go_at_call 52; (with_reducible refine (HT1.out _ HP0.out.rd).mono ?_); rintro e v1 ⟨rfl, r1, o1⟩; have HP1 := hid (HP0.out.rdr HK.out r1 o1); clear r1 o1 HP0)
       | (go_at_call 52; (with_reducible refine (HT2.out _ HP1.out.rd).mono ?_); rintro e v2 ⟨rfl, r1, o1⟩; have HP2 := hid (HP1.out.rdr HK.out r1 o1); clear r1 o1 HP1)
       | (go_at_call 52; (with_reducible refine (HT3.out _ HP2.out.rd).mono ?_); rintro e v3 ⟨rfl, r1, o1⟩; have HP3 := hid (HP2.out.rdr HK.out r1 o1); clear r1 o1 HP2)
       | (go_at_call 52; (with_reducible refine (HT4.out _ HP3.out.rd).mono ?_); rintro e v4 ⟨rfl, r1, o1⟩; have HP4 := hid (HP3.out.rdr HK.out r1 o1); clear r1 o1 HP3)
       | (go_at_call 124; (with_reducible refine (HR.out _ _ _ _ _ _ HP4.out.rd HP4.out.ml HP4.out.cn).mono ?_); rintro e v9 ⟨o9, rfl, r9, ⟨pv9, bv9, c9⟩⟩; have HP9 := hid (HP4.out.cont HK.out r9 o9 c9); clear o9 r9 c9))
      go_ret
      exact POut.good HO.out HP9.out
def KOut (R S cap d : Nat) (l : XS) (w : World) (o : Except Int (List XV × Bt)) (e : Ending) (w' : World) : Prop :=
 Off (fun b => b = R ∨ b = S) w w' ∧ match o with
 | .error k => k ≠ 0 ∧ e = .returned (.tuple #[.slice none 0 0, .int .i64 k])
 | .ok (ks, r) => RS R r d (ScV S l.length cap) w' ∧ KeepS S l.length w w' ∧ ∃ A c, e = .returned (.tuple #[.slice A ks.length c, .int .i64 0]) ∧ RN8 w' (fun b => w.heap.size ≤ b ∧ b < w'.heap.size) A ks
theorem Off.old {F : Nat → Prop} {w w' : World} {C : Nat} (h : Off (fun b => F b ∨ C ≤ b) w w') (hC : w.heap.size ≤ C) : Off F w w' :=
 ⟨h.os, h.tape, h.output, h.size, fun k hk hF => h.block k hk (fun e => e.elim hF (fun e => by omega))⟩
theorem Off.old2 {R S : Nat} {w w' : World} {C : Nat} (h : Off (fun b => b = R ∨ b = S ∨ C ≤ b) w w') (hC : w.heap.size ≤ C) : Off (fun b => b = R ∨ b = S) w w' :=
 ⟨h.os, h.tape, h.output, h.size, fun k hk hF => h.block k hk (fun e => by rcases e with e | e | e; exact hF (.inl e); exact hF (.inr e); omega)⟩
theorem KOut.bad {R S cap d C : Nat} {l : XS} {w w' : World} {o : Except Int (List XV × Bt)} {k : Int} (h : o = .error k) (hk : k ≠ 0) (ho : Off (fun b => b = R ∨ b = S ∨ C ≤ b) w w') (hC : w.heap.size ≤ C) : KOut R S cap d l w o (.returned (.tuple #[.slice none 0 0, .int .i64 k])) w' := by
 subst h
 exact ⟨ho.old2 hC, hk, rfl⟩
theorem kout_good {R S cap d C : Nat} {l : XS} {w w1 w' : World} {o : Except Int (List XV × Bt)} {ks : List XV} {r : Bt} {T : Nat → Prop} {kv pv bv kv' pv' bv' : Value} {ks0 : List XV} {cs cs' : List Value} {t : Bt} (h : o = .ok (ks, r)) (hp : PSt R S cap d C l r T kv pv bv ks0 cs t w w1) (k : PK R S C) (hC : w.heap.size = C) (hc : CSt C T kv' pv' bv' ks cs' [] w') (ho : Off (AllF C kv bv) w1 w') :
    KOut R S cap d l w o (.returned (.tuple #[kv', .int .i64 0])) w' := by
 subst h
 have hge : ∀ b, AllF C kv bv b → C ≤ b := fun b hb => by
  rcases hb with hb | hb | hb
  ·exact Nat.le_of_eq hb.symm
  ·exact (World.ownsRow.lt hp.cn.kids b hb).1
  ·exact (World.ownsRow.lt hp.cn.buf b hb).1
 have hR : ¬ AllF C kv bv R := fun e => by have := hge R e; have := k.rc; omega
 have hS : ¬ AllF C kv bv S := fun e => by have := hge S e; have := k.sc; omega
 obtain ⟨A, c, hkv, hrn⟩ := RN8.of_own (T' := fun b => w.heap.size ≤ b ∧ b < w'.heap.size) hc.kids rfl hc.read (fun b hb => by have := hc.apart b hb; exact ⟨by omega, this.2.1⟩) (fun b hb => by have := World.ownsRow.lt hc.kids b hb; exact ⟨by omega, this.2⟩)
 refine ⟨Off.old2 (C := C) (hp.off.then (ho.mono (fun b e => .inr (.inr (hge b e))))) (Nat.le_of_eq hC), hp.rd.off ho hR, hp.keep.trans (KeepS.off ho hS), A, c, by rw [hkv], hrn⟩
set_option maxRecDepth 100000 in
set_option maxHeartbeats 40000000 in
theorem content_any {N : Nat} (hE : ElemC N) {R S cap d : Nat} {l : XS} {s : Bt} {w : World} (hI : EIn R S cap d l s w) (hN : s.length ≤ N + 1) :
    Calls Tryz.prog 82 #[.pointer (some ⟨R, 0, none⟩)] w (KOut R S cap d l w (kidsX d l s [] [])) := by
 obtain ⟨C, hC⟩ : ∃ C, w.heap.size = C := ⟨_, rfl⟩
 have hk : PK R S C := ⟨hI.neR, hI.neS, by have := hI.ml.lt; omega, hI.ne, by have := hI.rd.lt; omega, by have := hI.sc.lt; omega⟩
 have HK := hid hk
 have HE := hid hE
 have HI := hid hI
 have HC := hid hC
 have hB := below_alloc8 w (CoB (.slice none 0 0) (.pointer none) (.slice none 0 0))
 have hbl : Blk C (CoB (.slice none 0 0) (.pointer none) (.slice none 0 0)) (w.alloc (CoB (.slice none 0 0) (.pointer none) (.slice none 0 0))) := by have := Blk.new (CoB (.slice none 0 0) (.pointer none) (.slice none 0 0)) w; rwa [hC] at this
 have HP : Hid (PSt R S cap d C l s (fun _ => False) (.slice none 0 0) (.pointer none) (.slice none 0 0) [] [] [] w (w.alloc (CoB (.slice none 0 0) (.pointer none) (.slice none 0 0)))) := hid
  ⟨hI.rd.below hB, hI.sc.off (Off.of_below hB) (fun h => h), hI.ml.below hB, ⟨hbl, .inl rfl, World.ownsRow_nil _ _ _ _, rfl, World.ownsRow_nil _ _ _ _, fun _ h => h.elim⟩, Off.ofB hB, KeepS.off (Off.of_below hB) (fun h => h)⟩
 clear hI hE hB hbl hk
 go_enter Tryz.func82, Tryz.ntmps82
 go_wp2
 generalize w.alloc (CoB (.slice none 0 0) (.pointer none) (.slice none 0 0)) = wA at *
 go_loopw [2, 3, 5] (fun a2 a3 a5 wr => a2 = .slice none 0 0 ∧ a3 = .int .i64 0 ∧ (∃ u, a5 = u) ∧ ∃ (s' : Bt) (ks : List XV) (t : Bt) (T : Nat → Prop) (kv pv bv : Value) (cs : List Value), Hid (PSt R S cap d C l s' T kv pv bv ks cs t w wr) ∧ Hid (kidsX d l s [] [] = kidsX d l s' ks t) ∧ Hid (s'.length ≤ s.length ∧ 2 * ks.length + t.length + 2 * s'.length ≤ 2 * s.length)) (fun _ _ _ wr => restOf R wr)
 case atStart => exact ⟨rfl, rfl, ⟨_, rfl⟩, s, [], [], _, _, _, _, _, HP, hid rfl, hid ⟨Nat.le_refl _, by simp⟩⟩
 case round =>
  clear HP
  obtain ⟨rfl, rfl, ⟨u5, rfl⟩, s', ks, t, T, kv, pv, bv, cs, HP, HX, HB⟩ := hrel
  cases hw : wordL [60, 47] s' with
  | some r =>
   have HT : Hid (∀ W, RS R s' d (ScV S l.length cap) W → Calls Tryz.prog 52 #[.pointer (some ⟨R, 0, none⟩), .string ⟨#[60, 47]⟩] W (fun e w' => e = .returned (.bool true) ∧ RS R r d (ScV S l.length cap) w' ∧ Off (fun b => b = R) W w')) := hid (fun W hW => take_yes hW hw)
   have HO : Hid (kidsX d l s [] [] = .ok (allX ks t, r)) := hid (by rw [HX.out, kidsX_eq, hw])
   have HA := hid (fun W T kv pv bv cs (hW : CSt C T kv pv bv ks cs t W) => all_any hW (by have := HB.out; have := HI.out.short; omega))
   clear hw
   go_wp2_with (first
    | (go_at_call 52; (with_reducible refine (HT.out _ HP.out.rd).mono ?_); rintro e w1 ⟨rfl, r1, o1⟩; have HP1 := hid (HP.out.rdr HK.out r1 o1); clear r1 o1)
    | (go_at_call 106; (with_reducible refine (HA.out _ _ _ _ _ _ HP1.out.cn).mono ?_); rintro e w2 ⟨kv', pv', bv', cs', rfl, c2, o2⟩; obtain ⟨A, ac, rfl⟩ := c2.kv; have HC2 := hid (And.intro c2 o2); clear c2 o2))
   go_ret2
   exact kout_good HO.out HP1.out HK.out HC.out HC2.out.1 HC2.out.2
  | none =>
   have HT : Hid (∀ W, RS R s' d (ScV S l.length cap) W → Calls Tryz.prog 52 #[.pointer (some ⟨R, 0, none⟩), .string ⟨#[60, 47]⟩] W (fun e w' => e = .returned (.bool false) ∧ RS R s' d (ScV S l.length cap) w' ∧ Off (fun b => b = R) W w')) := hid (fun W hW => take_no hW hw)
   have HX2 : Hid (kidsX d l s [] [] = match partX d l s' ks t with | .error e => .error e | .ok (r, ks', t') => kidsX d l r ks' t') := hid (by rw [HX.out, kids_part hw]; cases partX d l s' ks t <;> rfl)
   have HA := hid (fun W (hW : PSt R S cap d C l s' T kv pv bv ks cs t w W) => part_any HE.out hW HK.out (by have := HB.out; omega) (by have := HB.out; have := HI.out.len; omega) (by have := HB.out; have := HI.out.short; omega) HI.out.small HI.out.deep (by have := HB.out; have := HI.out.short; omega))
   unfold POut at HA
   have hr0 : restOf R wr = s'.length := rest_of HP.out.rd
   have HR0 := hid hr0
   clear hw hr0
   cases hp : partX d l s' ks t with
   | error k =>
    have HO : Hid (kidsX d l s [] [] = .error k) := hid (by rw [HX2.out, hp])
    rw [hp] at HA
    simp only at HA
    clear hp HX2
    go_wp2_with (first
     | (go_at_call 52; (with_reducible refine (HT.out _ HP.out.rd).mono ?_); rintro e w1 ⟨rfl, r1, o1⟩; have HP1 := hid (HP.out.rdr HK.out r1 o1); clear r1 o1)
     | (go_at_call 105; (with_reducible refine (HA.out _ HP1.out).mono ?_); rintro e w2 ⟨hk, rfl, o2⟩; have HO2 := hid o2; clear o2))
    go_ret2
    exact KOut.bad HO.out hk HO2.out (Nat.le_of_eq HC.out)
   | ok y =>
    obtain ⟨r, ks', t'⟩ := y
    have HO : Hid (kidsX d l s [] [] = kidsX d l r ks' t') := hid (by rw [HX2.out, hp])
    have HPP := hid (part_pot hp)
    rw [hp] at HA
    simp only at HA
    clear hp HX2
    go_wp2_with (first
     | (go_at_call 52; (with_reducible refine (HT.out _ HP.out.rd).mono ?_); rintro e w1 ⟨rfl, r1, o1⟩; have HP1 := hid (HP.out.rdr HK.out r1 o1); clear r1 o1)
     | (go_at_call 105; (with_reducible refine (HA.out _ HP1.out).mono ?_); rintro e w2 ⟨rfl, T2, kv2, pv2, bv2, cs2, p2⟩; have HP2 := hid p2; clear p2))
    go_roundw
    case rel => exact ⟨rfl, rfl, ⟨_, rfl⟩, r, ks', t', T2, kv2, pv2, bv2, cs2, HP2, HO, hid (by have := HB.out; have := HPP.out; omega)⟩
    case measure => have h1 := rest_of HP2.out.rd; have h2 := HPP.out.1; have h3 := HR0.out; show restOf R _ < restOf R wr; omega
end Go.Proofs.YtklcjimmbkpbdaaGreatDoor
