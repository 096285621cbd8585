/-
  The law VfsCalm's two regions that draw their order, as laws over any frame; the rows that it gathers, beside its disk. No conditions.
-/
import Derived.Test.YtbodkjifpmencaaVZK
import Derived.Test.YtbodkjifpmencaaVfN
import Derived.Deep.RegionHeld3
import Derived.Deep.AppendLies
namespace Go.Proofs.Ytbodkjifpmencaa
open Go.RowKit
open Go.Lib

/-- A slice of the call's own that holds these texts. -/
def OwnS (w : World) (v : Value) (ls : List Bs) : Prop := w.ownsRow 0 9 1 v ls.length (ls.map Go.Proofs.encStr)
theorem OwnS.off {F : Nat → Prop} {w w' : World} {v : Value} {ls : List Bs} (h : OwnS w v ls) (ho : Off F w w') (hF : ∀ b, v.ownBlock = some b → ¬ F b) : OwnS w' v ls := own_off h ho hF
theorem OwnS.lt {w : World} {v : Value} {ls : List Bs} (h : OwnS w v ls) {b : Nat} (hb : v.ownBlock = some b) : b < w.heap.size := (World.ownsRow.lt h b hb).2
section
variable {ops : Array Oper} {o : Oper} {a : Act} {K : Act → World → Prop} {Q : Exit → Act → World → Prop} {E : Prop}
theorem step_appS (hgd : o.guard = none) (s x : Operand) (ho : o.op = .call { callee := .builtin .append, args := #[s, x], argTypes := #[39, 39] }) (w : World) (v : Value) (ls : List Bs) (l : Bs) (g0 : Nat) (hs : a.eval s = v) (hown : OwnS w v ls) (hx : a.eval x = .slice (some ⟨g0, 0, none⟩) 1 1) (hg : w.heap[g0]? = some (.cells #[.string (bs l)] 9 (0, 0))) (hlen : ls.length + 1 ≤ 1000000)
    (h : ∀ v' w', OwnS w' v' (ls ++ [l]) → w.grownBy w' v.ownBlock → (∀ k, v'.ownBlock = some k → v.ownBlock = some k ∨ w.heap.size ≤ k) → K (a.put o.dst v') w') :
    if Region.wanted o (yielded ops a.tmps) = true then Oper.wp Try.prog o a w K Q else E := by
  obtain ⟨i0, hi, hz0, hz1, hz2⟩ := info_parts Try.infoStr
  refine step_append_lies w hgd s x 39 ho 0 9 i0 (.string ⟨#[]⟩) 1 16 Try.underlying39 hi hz0 hz1 hz2 rfl (by decide) v ls.length _ hs hown ⟨g0, 0, none⟩ 1 1 [.string (bs l)] hx rfl (World.news_of_block hg) (fun u hu => by simp at hu; subst hu; rfl) (by decide) (by unfold maxLen; omega) (by omega) (Nat.zero_le _) w.heap.size rfl ?_
  intro g cap w1 hown1 hgrow hat _
  refine h _ _ ?_ hgrow (fun k hk => ?_)
  · unfold OwnS
    rw [List.map_append, List.length_append]
    exact hown1
  · have : g = k := Option.some.inj hk
    subst this
    exact hat.imp id (fun h => by omega)
theorem step_build1 (hgd : o.guard = none) (t : Nat) (ho : o.op = .buildSlice 39 1 #[(0, .tmp t)]) (w : World) (x : ByteArray) (hx : a.eval (.tmp t) = .string x)
    (h : K (a.put o.dst (.slice (some ⟨w.heap.size, 0, none⟩) 1 1)) (w.alloc (.cells #[.string x] 9 (0, 0)))) :
    if Region.wanted o (yielded ops a.tmps) = true then Oper.wp Try.prog o a w K Q else E := by
  have hw : Region.wanted o (yielded ops a.tmps) = true := by simp [Region.wanted, hgd]
  rw [if_pos hw]
  unfold Oper.wp
  have run : (execOp a.eval o).run Try.prog w = .ok (.value (.slice (some ⟨w.heap.size, 0, none⟩) 1 1)) (w.alloc (.cells #[.string x] 9 (0, 0))) := by
    clear h hw
    unfold execOp
    rw [ho]
    generalize a.eval = ev at *
    go_simp
  rw [run]
  exact h
end
theorem ev_same {a : Act} {n : Nat} {v : Value} (h : n < a.tmps.size) : (a.put (some n) v).eval (.tmp n) = v := by
  simp [Act.put, Act.eval, h]
theorem ev_oth {a : Act} {n m : Nat} {v : Value} (h : n ≠ m) : (a.put (some n) v).eval (.tmp m) = a.eval (.tmp m) := by
  simp [Act.put, Act.eval, h]
theorem sz_put {a : Act} {n : Nat} {v : Value} : (a.put (some n) v).tmps.size = a.tmps.size := by simp [Act.put]
section
variable {P : Program} {ops : Array Oper} {S : World → Prop} {a : Act}
theorem y_move {dst : Option Nat} {ty : TypeId} {pos : String} {af : Array Edge} {s : Nat} {v : Value} (h : a.eval (.tmp s) = v) :
    YieldsIf P ops S { dst := dst, op := .move (.tmp s), type := ty, pos := pos, after := af, guard := none } v a := by
  refine Or.inl ⟨rfl, fun W _ => ?_⟩
  generalize a.eval = ev at *
  simp [execOp, h]
theorem y_assign {dst : Option Nat} {ty : TypeId} {pos : String} {af : Array Edge} {s : Nat} {v : Value} (h : a.eval (.tmp s) = v) :
    YieldsIf P ops S { dst := dst, op := .assign (.tmp s), type := ty, pos := pos, after := af, guard := none } v a := by
  refine Or.inl ⟨rfl, fun W _ => ?_⟩
  generalize a.eval = ev at *
  simp [execOp, h]
theorem y_conv {dst : Option Nat} {ty : TypeId} {pos : String} {af : Array Edge} {s : Nat} {v r : Value} (h : a.eval (.tmp s) = v) (hx : ∀ W, S W → (convert 24 9 v).run P W = .ok r W) :
    YieldsIf P ops S { dst := dst, op := .convert 24 9 (.tmp s), type := ty, pos := pos, after := af, guard := none } r a := by
  refine Or.inl ⟨rfl, fun W hW => ?_⟩
  have := hx W hW
  generalize a.eval = ev at *
  simp [execOp, h, this]
end
def regionOf (n : Nat) : Code → Option Code
  | .region id ops b => if id = n then some (.region id ops b) else none
  | .loop c => regionOf n c
  | .seq a b => match regionOf n a with
    | some c => some c
    | none => regionOf n b
  | .block _ c => regionOf n c
  | .scope c => regionOf n c
  | .cond _ a b => match regionOf n a with
    | some c => some c
    | none => regionOf n b
  | _ => none
noncomputable def reg25 : Code := (Try.f5.body.bind (regionOf 25)).getD .skip
theorem ownB_conv {w : World} {base : Nat} {v : Value} {l : Bs} (h : OwnB w base v l) : (convert 24 9 v).run Try.prog w = .ok (.string (bs l)) w := by
  obtain ⟨A, c, he, _, hR, _⟩ := h.read
  rw [he]
  exact conv_rb c hR
/-- The two appends have come to pass. -/
def Both (w w' : World) (vN vT vN' vT' : Value) (ns ts : List Bs) : Prop :=
  OwnS w' vN' ns ∧ OwnS w' vT' ts ∧ Off (fun b => vN.ownBlock = some b ∨ vT.ownBlock = some b) w w' ∧ (∀ b, vN'.ownBlock = some b → vN.ownBlock = some b ∨ w.heap.size ≤ b) ∧ (∀ b, vT'.ownBlock = some b → vT.ownBlock = some b ∨ w.heap.size ≤ b) ∧ ∀ b, vN'.ownBlock = some b → vT'.ownBlock ≠ some b
set_option maxRecDepth 100000 in
set_option maxHeartbeats 4000000 in
theorem regG {code : Code} {act : Act} {w : World} {Q : Exit → Act → World → Prop} {vN vT vb : Value} {ns ts : List Bs} {p t : Bs} (hcode : code = reg25) (hz : 106 < act.tmps.size) (h9 : act.eval (.tmp 9) = vN) (h10 : act.eval (.tmp 10) = vT) (h14 : act.eval (.tmp 14) = .string (bs p)) (h15 : act.eval (.tmp 15) = vb)
    (hN : OwnS w vN ns) (hT : OwnS w vT ts) (hNT : ∀ k, vN.ownBlock = some k → vT.ownBlock ≠ some k) (hb : OwnB w 0 vb t) (hbN : ∀ k, vb.ownBlock = some k → vN.ownBlock ≠ some k ∧ vT.ownBlock ≠ some k) (hln : ns.length + 1 ≤ 1000000) (hlt : ts.length + 1 ≤ 1000000)
    (k : ∀ x1 x2 vN' vT' w', Both w w' vN vT vN' vT' (ns ++ [p]) (ts ++ [t]) → Q .normal (Act.put (Act.put (Act.put (Act.put (Act.put (Act.put (Act.put (Act.put (Act.put (Act.put (Act.put act (some 98) vN) (some 99) (.string (bs p))) (some 102) vT) (some 103) vb) (some 104) (.string (bs t))) (some 100) x1) (some 101) vN') (some 105) x2) (some 106) vT') (some 9) vN') (some 10) vT') w') : code.wp Try.prog Q act w := by
  subst hcode
  conv => arg 2; whnf
  refine wp_region_noPanic ?_
  refine wp_region_held_drew (S := fun V => OwnB V 0 vb t) (by kernel_rfl) (hb.off (F := fun _ => False) ⟨rfl, rfl, rfl, Nat.le_refl _, fun _ _ _ => rfl⟩ (fun _ _ h => h)) (fun hHeld => ?_)
  refine wpAnyH_take (i := 0) (v := vN) rfl (by kernel_rfl) (by kernel_rfl) (by kernel_rfl) (fun _ _ _ h => h) (y_move h9) hHeld ?_
  change wpAnyH _ _ _ _ _ _ _ (Act.put _ (some 98) _) _
  refine wpAnyH_take (i := 1) (v := .string (bs p)) rfl (by kernel_rfl) (by kernel_rfl) (by kernel_rfl) (fun _ _ _ h => h) (y_move (by simp (disch := decide) only [ev_oth]; exact h14)) hHeld ?_
  change wpAnyH _ _ _ _ _ _ _ (Act.put _ (some 99) _) _
  refine wpAnyH_take (i := 4) (v := vT) rfl (by kernel_rfl) (by kernel_rfl) (by kernel_rfl) (fun _ _ _ h => h) (y_move (by simp (disch := decide) only [ev_oth]; exact h10)) hHeld ?_
  change wpAnyH _ _ _ _ _ _ _ (Act.put _ (some 102) _) _
  refine wpAnyH_take (i := 5) (v := vb) rfl (by kernel_rfl) (by kernel_rfl) (by kernel_rfl) (fun _ _ _ h => h) (y_move (by simp (disch := decide) only [ev_oth]; exact h15)) hHeld ?_
  change wpAnyH _ _ _ _ _ _ _ (Act.put _ (some 103) _) _
  refine wpAnyH_take (i := 6) (v := .string (bs t)) rfl (by kernel_rfl) (by kernel_rfl) (by kernel_rfl) (fun _ _ _ h => h) (y_conv (ev_same (by simp only [sz_put]; omega)) (fun W hW => ownB_conv hW)) hHeld ?_
  change wpAnyH _ _ _ _ _ _ _ (Act.put _ (some 104) _) _
  have g98 : Act.eval (Act.put (Act.put (Act.put (Act.put (Act.put act (some 98) vN) (some 99) (.string (bs p))) (some 102) vT) (some 103) vb) (some 104) (.string (bs t))) (.tmp 98) = vN := by
    simp (disch := decide) only [ev_oth]
    exact ev_same (by omega)
  have g99 : Act.eval (Act.put (Act.put (Act.put (Act.put (Act.put act (some 98) vN) (some 99) (.string (bs p))) (some 102) vT) (some 103) vb) (some 104) (.string (bs t))) (.tmp 99) = .string (bs p) := by
    simp (disch := decide) only [ev_oth]
    exact ev_same (by simp only [sz_put]; omega)
  have g102 : Act.eval (Act.put (Act.put (Act.put (Act.put (Act.put act (some 98) vN) (some 99) (.string (bs p))) (some 102) vT) (some 103) vb) (some 104) (.string (bs t))) (.tmp 102) = vT := by
    simp (disch := decide) only [ev_oth]
    exact ev_same (by simp only [sz_put]; omega)
  have g104 : Act.eval (Act.put (Act.put (Act.put (Act.put (Act.put act (some 98) vN) (some 99) (.string (bs p))) (some 102) vT) (some 103) vb) (some 104) (.string (bs t))) (.tmp 104) = .string (bs t) := ev_same (by simp only [sz_put]; omega)
  have gsz : 106 < (Act.put (Act.put (Act.put (Act.put (Act.put act (some 98) vN) (some 99) (.string (bs p))) (some 102) vT) (some 103) vb) (some 104) (.string (bs t))).tmps.size := by simp only [sz_put]; omega
  obtain ⟨fa, hfa⟩ : ∃ c : Act, (Act.put (Act.put (Act.put (Act.put (Act.put act (some 98) vN) (some 99) (.string (bs p))) (some 102) vT) (some 103) vb) (some 104) (.string (bs t))) = c := ⟨_, rfl⟩
  rw [hfa] at g98 g99 g102 g104 gsz k ⊢
  clear hfa h9 h10 h14 h15 hz
  have D0 : Off (fun _ => False) w w.drew := ⟨rfl, rfl, rfl, Nat.le_refl _, fun _ _ _ => rfl⟩
  have hN0 := hN.off D0 (fun _ _ h => h)
  have hT0 := hT.off D0 (fun _ _ h => h)
  have E0 : Off (fun b => vN.ownBlock = some b ∨ vT.ownBlock = some b) w w.drew := D0.mono (fun _ h => h.elim)
  have hs0 : w.drew.heap.size = w.heap.size := rfl
  generalize w.drew = w0 at *
  clear D0
  -- laws of one step
  have AL : ∀ (V : World) (o : Obj), Off (fun b => vN.ownBlock = some b ∨ vT.ownBlock = some b) V (V.alloc o) := fun V o => (Off.of_grown (grown_alloc V o none)).mono (fun _ h => by cases h)
  have AO : ∀ (V : World) (o : Obj) (b : Nat) (x : Obj), V.heap[b]? = some x → (V.alloc o).heap[b]? = some x := fun V o b x h => (heap_alloc_old V o (Array.getElem?_eq_some_iff.1 h).1).trans h
  have TR : ∀ {A B C : World}, Off (fun b => vN.ownBlock = some b ∨ vT.ownBlock = some b) A B → Off (fun b => vN.ownBlock = some b ∨ vT.ownBlock = some b) B C → Off (fun b => vN.ownBlock = some b ∨ vT.ownBlock = some b) A C := fun h k => h.trans k (fun _ h => .inl h)
  have BK : ∀ {A B : World}, Off (fun b => vN.ownBlock = some b ∨ vT.ownBlock = some b) A B → OwnB A 0 vb t → OwnB B 0 vb t := fun h k => k.off h (fun b hb e => e.elim (hbN b hb).1 (hbN b hb).2)
  have K1 : ∀ (V : World) (o : Obj), OwnS V vN ns → OwnS (V.alloc o) vN ns := fun V o h => World.ownsRow.alloc h o
  have K2 : ∀ (V : World) (o : Obj), OwnS V vT ts → OwnS (V.alloc o) vT ts := fun V o h => World.ownsRow.alloc h o
  refine wpAnyH_ready (rs := [2, 7]) (by kernel_rfl) (by simp) ?_
  refine AllReadyH.cons (o := { dst := some 100, op := .buildSlice 39 1 #[(0, .tmp 99)], type := _, pos := _, after := _, guard := none }) rfl (fun K hK => ?_) ?_
  · -- names' element first
    refine step_build1 rfl 99 rfl w0 (bs p) g99 ?_
    have E1 := TR E0 (AL w0 (.cells #[.string (bs p)] 9 (0, 0)))
    refine hK.out _ _ (BK E1 hb) (fun hHeld1 => ?_)
    clear hK K
    have N1 := K1 w0 (.cells #[.string (bs p)] 9 (0, 0)) hN0
    have T1 := K2 w0 (.cells #[.string (bs p)] 9 (0, 0)) hT0
    have G1 := heap_alloc_new w0 (.cells #[.string (bs p)] 9 (0, 0))
    have z1 : (w0.alloc (.cells #[.string (bs p)] 9 (0, 0))).heap.size = w.heap.size + 1 := by simp [hs0]
    rw [hs0] at G1 ⊢
    generalize w0.alloc (.cells #[.string (bs p)] 9 (0, 0)) = w1 at *
    have e100 : Act.eval (Act.put fa (some 100) (.slice (some ⟨w.heap.size, 0, none⟩) 1 1)) (.tmp 100) = .slice (some ⟨w.heap.size, 0, none⟩) 1 1 := ev_same (by omega)
    have e98 : Act.eval (Act.put fa (some 100) (.slice (some ⟨w.heap.size, 0, none⟩) 1 1)) (.tmp 98) = vN := by rw [ev_oth (by decide)]; exact g98
    change wpAnyH _ _ _ _ _ _ _ (Act.put fa (some 100) _) _
    refine wpAnyH_ready (rs := [3, 7]) (by kernel_rfl) (by simp) ?_
    refine AllReadyH.cons (o := { dst := some 101, op := .call { callee := .builtin .append, args := #[.tmp 98, .tmp 100], argTypes := #[39, 39] }, type := _, pos := _, after := _, guard := none }) rfl (fun K hK => ?_) ?_
    · -- 2, 3, 7, 8
      refine step_appS rfl _ _ rfl w1 vN ns p w.heap.size e98 N1 e100 G1 hln ?_
      intro vN' w2 N2 gr2 at2
      have E2 := TR E1 ((Off.of_grown gr2).mono (fun _ h => .inl h))
      refine hK.out _ _ (BK E2 hb) (fun hHeld2 => ?_)
      clear hK K
      have T2 : OwnS w2 vT ts := T1.off (Off.of_grown gr2) (fun b hb e => hNT b e hb)
      refine wpAnyH_ready (rs := [7]) (by kernel_rfl) (by simp) ?_
      refine AllReadyH.cons (o := { dst := some 105, op := .buildSlice 39 1 #[(0, .tmp 104)], type := _, pos := _, after := _, guard := none }) rfl (fun K hK => ?_) AllReadyH.nil
      refine step_build1 rfl 104 rfl w2 (bs t) (by simp (disch := decide) only [ev_oth]; exact g104) ?_
      have E3 := TR E2 (AL w2 (.cells #[.string (bs t)] 9 (0, 0)))
      refine hK.out _ _ (BK E3 hb) (fun hHeld3 => ?_)
      clear hK K
      have N3 : OwnS (w2.alloc (.cells #[.string (bs t)] 9 (0, 0))) vN' (ns ++ [p]) := World.ownsRow.alloc N2 (.cells #[.string (bs t)] 9 (0, 0))
      have T3 := K2 w2 (.cells #[.string (bs t)] 9 (0, 0)) T2
      have G3 := heap_alloc_new w2 (.cells #[.string (bs t)] 9 (0, 0))
      have z3 : w2.heap.size ≤ (w2.alloc (.cells #[.string (bs t)] 9 (0, 0))).heap.size := by simp
      generalize w2.alloc (.cells #[.string (bs t)] 9 (0, 0)) = w3 at *
      change wpAnyH _ _ _ _ _ _ _ (Act.put (Act.put (Act.put fa (some 100) _) (some 101) _) (some 105) _) _
      refine wpAnyH_ready (rs := [8]) (by kernel_rfl) (by simp) ?_
      refine AllReadyH.cons (o := { dst := some 106, op := .call { callee := .builtin .append, args := #[.tmp 102, .tmp 105], argTypes := #[39, 39] }, type := _, pos := _, after := _, guard := none }) rfl (fun K hK => ?_) AllReadyH.nil
      refine step_appS rfl _ _ rfl w3 vT ts t w2.heap.size (by simp (disch := decide) only [ev_oth]; exact g102) T3 (ev_same (by simp only [sz_put]; omega)) G3 hlt ?_
      intro vT' w4 T4 gr4 at4
      have E4 := TR E3 ((Off.of_grown gr4).mono (fun _ h => .inr h))
      refine hK.out _ _ (BK E4 hb) (fun hH => ?_)
      clear hK K
      have s2 := gr2.size
      have l2 : ∀ b, vN'.ownBlock = some b → b < w3.heap.size := fun b hb => N3.lt hb
      have hd : ∀ b, vN'.ownBlock = some b → vT.ownBlock ≠ some b := fun b hb e => (at2 b hb).elim (fun h => hNT b h e) (fun h => by have := hT.lt e; omega)
      have N4 : OwnS w4 vN' (ns ++ [p]) := N3.off (Off.of_grown gr4) hd
      change wpAnyH _ _ _ _ _ _ _ (Act.put (Act.put (Act.put (Act.put fa (some 100) _) (some 101) _) (some 105) _) (some 106) _) _
      refine wpAnyH_take (i := 9) (v := vN') rfl (by kernel_rfl) (by kernel_rfl) (by kernel_rfl) (fun _ _ _ h => h) (y_assign (by (try simp (disch := decide) only [ev_oth]); exact ev_same (by simp only [sz_put]; omega))) hH ?_
      change wpAnyH _ _ _ _ _ _ _ (Act.put _ (some 9) _) _
      refine wpAnyH_take (i := 10) (v := vT') rfl (by kernel_rfl) (by kernel_rfl) (by kernel_rfl) (fun _ _ _ h => h) (y_assign (by simp (disch := decide) only [ev_oth]; exact ev_same (by (try simp only [sz_put]); omega))) hH ?_
      change wpAnyH _ _ _ _ _ _ _ (Act.put _ (some 10) _) _
      refine wpAnyH_done (by kernel_rfl) ?_ _
      refine NoPanic.normal ?_
      exact k _ _ _ _ w4 ⟨N4, T4, E4, fun b hb => (at2 b hb).imp id (fun h => by omega), fun b hb => (at4 b hb).imp id (fun h => by omega), fun b hb e => (at4 b e).elim (hd b hb) (fun h => by have := l2 b hb; omega)⟩
    · -- 2, 7, 3, 8
      refine AllReadyH.cons (o := { dst := some 105, op := .buildSlice 39 1 #[(0, .tmp 104)], type := _, pos := _, after := _, guard := none }) rfl (fun K hK => ?_) AllReadyH.nil
      refine step_build1 rfl 104 rfl w1 (bs t) (by rw [ev_oth (by decide)]; exact g104) ?_
      have E2 := TR E1 (AL w1 (.cells #[.string (bs t)] 9 (0, 0)))
      refine hK.out _ _ (BK E2 hb) (fun hHeld2 => ?_)
      clear hK K
      have N2 := K1 w1 (.cells #[.string (bs t)] 9 (0, 0)) N1
      have T2 := K2 w1 (.cells #[.string (bs t)] 9 (0, 0)) T1
      have G2 := AO w1 (.cells #[.string (bs t)] 9 (0, 0)) _ _ G1
      have G2' := heap_alloc_new w1 (.cells #[.string (bs t)] 9 (0, 0))
      rw [z1] at G2' ⊢
      have z2 : (w1.alloc (.cells #[.string (bs t)] 9 (0, 0))).heap.size = w.heap.size + 2 := by simp [z1]
      generalize w1.alloc (.cells #[.string (bs t)] 9 (0, 0)) = w2 at *
      change wpAnyH _ _ _ _ _ _ _ (Act.put (Act.put fa (some 100) _) (some 105) _) _
      rw [Act.put_comm (x := some 100) (y := some 105) _ _ _ (by simp)]
      refine wpAnyH_ready (rs := [3]) (by kernel_rfl) (by simp) ?_
      refine AllReadyH.cons (o := { dst := some 101, op := .call { callee := .builtin .append, args := #[.tmp 98, .tmp 100], argTypes := #[39, 39] }, type := _, pos := _, after := _, guard := none }) rfl (fun K hK => ?_) AllReadyH.nil
      refine step_appS rfl _ _ rfl w2 vN ns p w.heap.size (by simp (disch := decide) only [ev_oth]; exact g98) N2 (ev_same (by simp only [sz_put]; omega)) G2 hln ?_
      intro vN' w3 N3 gr3 at3
      have E3 := TR E2 ((Off.of_grown gr3).mono (fun _ h => .inl h))
      refine hK.out _ _ (BK E3 hb) (fun hHeld3 => ?_)
      clear hK K
      have T3 : OwnS w3 vT ts := T2.off (Off.of_grown gr3) (fun b hb e => hNT b e hb)
      have G3 : w3.heap[(w.heap.size + 1)]? = some (.cells #[.string (bs t)] 9 (0, 0)) := (gr3.block _ (by omega) (fun e => by have := hN.lt e.symm; omega)).trans G2'
      change wpAnyH _ _ _ _ _ _ _ (Act.put (Act.put (Act.put fa (some 105) _) (some 100) _) (some 101) _) _
      refine wpAnyH_ready (rs := [8]) (by kernel_rfl) (by simp) ?_
      refine AllReadyH.cons (o := { dst := some 106, op := .call { callee := .builtin .append, args := #[.tmp 102, .tmp 105], argTypes := #[39, 39] }, type := _, pos := _, after := _, guard := none }) rfl (fun K hK => ?_) AllReadyH.nil
      refine step_appS rfl _ _ rfl w3 vT ts t (w.heap.size + 1) (by simp (disch := decide) only [ev_oth]; exact g102) T3 (by simp (disch := decide) only [ev_oth]; exact ev_same (by (try simp only [sz_put]); omega)) G3 hlt ?_
      intro vT' w4 T4 gr4 at4
      have E4 := TR E3 ((Off.of_grown gr4).mono (fun _ h => .inr h))
      refine hK.out _ _ (BK E4 hb) (fun hH => ?_)
      clear hK K
      have s3 := gr3.size
      have l2 : ∀ b, vN'.ownBlock = some b → b < w3.heap.size := fun b hb => N3.lt hb
      have hd : ∀ b, vN'.ownBlock = some b → vT.ownBlock ≠ some b := fun b hb e => (at3 b hb).elim (fun h => hNT b h e) (fun h => by have := hT.lt e; omega)
      have N4 : OwnS w4 vN' (ns ++ [p]) := N3.off (Off.of_grown gr4) hd
      change wpAnyH _ _ _ _ _ _ _ (Act.put (Act.put (Act.put (Act.put fa (some 105) _) (some 100) _) (some 101) _) (some 106) _) _
      rw [Act.put_comm (x := some 105) (y := some 100) _ _ _ (by simp), Act.put_comm (x := some 105) (y := some 101) _ _ _ (by simp)]
      refine wpAnyH_take (i := 9) (v := vN') rfl (by kernel_rfl) (by kernel_rfl) (by kernel_rfl) (fun _ _ _ h => h) (y_assign (by (try simp (disch := decide) only [ev_oth]); exact ev_same (by simp only [sz_put]; omega))) hH ?_
      change wpAnyH _ _ _ _ _ _ _ (Act.put _ (some 9) _) _
      refine wpAnyH_take (i := 10) (v := vT') rfl (by kernel_rfl) (by kernel_rfl) (by kernel_rfl) (fun _ _ _ h => h) (y_assign (by simp (disch := decide) only [ev_oth]; exact ev_same (by (try simp only [sz_put]); omega))) hH ?_
      change wpAnyH _ _ _ _ _ _ _ (Act.put _ (some 10) _) _
      refine wpAnyH_done (by kernel_rfl) ?_ _
      refine NoPanic.normal ?_
      exact k _ _ _ _ w4 ⟨N4, T4, E4, fun b hb => (at3 b hb).imp id (fun h => by omega), fun b hb => (at4 b hb).imp id (fun h => by omega), fun b hb e => (at4 b e).elim (hd b hb) (fun h => by have := l2 b hb; omega)⟩
  · refine AllReadyH.cons (o := { dst := some 105, op := .buildSlice 39 1 #[(0, .tmp 104)], type := _, pos := _, after := _, guard := none }) rfl (fun K hK => ?_) AllReadyH.nil
    -- 7, 2, 3, 8
    refine step_build1 rfl 104 rfl w0 (bs t) g104 ?_
    have E1 := TR E0 (AL w0 (.cells #[.string (bs t)] 9 (0, 0)))
    refine hK.out _ _ (BK E1 hb) (fun hHeld1 => ?_)
    clear hK K
    have N1 := K1 w0 (.cells #[.string (bs t)] 9 (0, 0)) hN0
    have T1 := K2 w0 (.cells #[.string (bs t)] 9 (0, 0)) hT0
    have G1 := heap_alloc_new w0 (.cells #[.string (bs t)] 9 (0, 0))
    have z1 : (w0.alloc (.cells #[.string (bs t)] 9 (0, 0))).heap.size = w.heap.size + 1 := by simp [hs0]
    rw [hs0] at G1 ⊢
    generalize w0.alloc (.cells #[.string (bs t)] 9 (0, 0)) = w1 at *
    change wpAnyH _ _ _ _ _ _ _ (Act.put fa (some 105) _) _
    refine wpAnyH_ready (rs := [2]) (by kernel_rfl) (by simp) ?_
    refine AllReadyH.cons (o := { dst := some 100, op := .buildSlice 39 1 #[(0, .tmp 99)], type := _, pos := _, after := _, guard := none }) rfl (fun K hK => ?_) AllReadyH.nil
    refine step_build1 rfl 99 rfl w1 (bs p) (by rw [ev_oth (by decide)]; exact g99) ?_
    have E2 := TR E1 (AL w1 (.cells #[.string (bs p)] 9 (0, 0)))
    refine hK.out _ _ (BK E2 hb) (fun hHeld2 => ?_)
    clear hK K
    have N2 := K1 w1 (.cells #[.string (bs p)] 9 (0, 0)) N1
    have T2 := K2 w1 (.cells #[.string (bs p)] 9 (0, 0)) T1
    have G2' := AO w1 (.cells #[.string (bs p)] 9 (0, 0)) _ _ G1
    have G2 := heap_alloc_new w1 (.cells #[.string (bs p)] 9 (0, 0))
    rw [z1] at G2 ⊢
    have z2 : (w1.alloc (.cells #[.string (bs p)] 9 (0, 0))).heap.size = w.heap.size + 2 := by simp [z1]
    generalize w1.alloc (.cells #[.string (bs p)] 9 (0, 0)) = w2 at *
    change wpAnyH _ _ _ _ _ _ _ (Act.put (Act.put fa (some 105) _) (some 100) _) _
    refine wpAnyH_ready (rs := [3]) (by kernel_rfl) (by simp) ?_
    refine AllReadyH.cons (o := { dst := some 101, op := .call { callee := .builtin .append, args := #[.tmp 98, .tmp 100], argTypes := #[39, 39] }, type := _, pos := _, after := _, guard := none }) rfl (fun K hK => ?_) AllReadyH.nil
    refine step_appS rfl _ _ rfl w2 vN ns p (w.heap.size + 1) (by simp (disch := decide) only [ev_oth]; exact g98) N2 (ev_same (by simp only [sz_put]; omega)) G2 hln ?_
    intro vN' w3 N3 gr3 at3
    have E3 := TR E2 ((Off.of_grown gr3).mono (fun _ h => .inl h))
    refine hK.out _ _ (BK E3 hb) (fun hHeld3 => ?_)
    clear hK K
    have T3 : OwnS w3 vT ts := T2.off (Off.of_grown gr3) (fun b hb e => hNT b e hb)
    have G3 : w3.heap[w.heap.size]? = some (.cells #[.string (bs t)] 9 (0, 0)) := (gr3.block _ (by omega) (fun e => by have := hN.lt e.symm; omega)).trans G2'
    change wpAnyH _ _ _ _ _ _ _ (Act.put (Act.put (Act.put fa (some 105) _) (some 100) _) (some 101) _) _
    refine wpAnyH_ready (rs := [8]) (by kernel_rfl) (by simp) ?_
    refine AllReadyH.cons (o := { dst := some 106, op := .call { callee := .builtin .append, args := #[.tmp 102, .tmp 105], argTypes := #[39, 39] }, type := _, pos := _, after := _, guard := none }) rfl (fun K hK => ?_) AllReadyH.nil
    refine step_appS rfl _ _ rfl w3 vT ts t w.heap.size (by simp (disch := decide) only [ev_oth]; exact g102) T3 (by simp (disch := decide) only [ev_oth]; exact ev_same (by (try simp only [sz_put]); omega)) G3 hlt ?_
    intro vT' w4 T4 gr4 at4
    have E4 := TR E3 ((Off.of_grown gr4).mono (fun _ h => .inr h))
    refine hK.out _ _ (BK E4 hb) (fun hH => ?_)
    clear hK K
    have s3 := gr3.size
    have l2 : ∀ b, vN'.ownBlock = some b → b < w3.heap.size := fun b hb => N3.lt hb
    have hd : ∀ b, vN'.ownBlock = some b → vT.ownBlock ≠ some b := fun b hb e => (at3 b hb).elim (fun h => hNT b h e) (fun h => by have := hT.lt e; omega)
    have N4 : OwnS w4 vN' (ns ++ [p]) := N3.off (Off.of_grown gr4) hd
    change wpAnyH _ _ _ _ _ _ _ (Act.put (Act.put (Act.put (Act.put fa (some 105) _) (some 100) _) (some 101) _) (some 106) _) _
    rw [Act.put_comm (x := some 105) (y := some 100) _ _ _ (by simp), Act.put_comm (x := some 105) (y := some 101) _ _ _ (by simp)]
    refine wpAnyH_take (i := 9) (v := vN') rfl (by kernel_rfl) (by kernel_rfl) (by kernel_rfl) (fun _ _ _ h => h) (y_assign (by (try simp (disch := decide) only [ev_oth]); exact ev_same (by simp only [sz_put]; omega))) hH ?_
    change wpAnyH _ _ _ _ _ _ _ (Act.put _ (some 9) _) _
    refine wpAnyH_take (i := 10) (v := vT') rfl (by kernel_rfl) (by kernel_rfl) (by kernel_rfl) (fun _ _ _ h => h) (y_assign (by simp (disch := decide) only [ev_oth]; exact ev_same (by (try simp only [sz_put]); omega))) hH ?_
    change wpAnyH _ _ _ _ _ _ _ (Act.put _ (some 10) _) _
    refine wpAnyH_done (by kernel_rfl) ?_ _
    refine NoPanic.normal ?_
    exact k _ _ _ _ w4 ⟨N4, T4, E4, fun b hb => (at3 b hb).imp id (fun h => by omega), fun b hb => (at4 b hb).imp id (fun h => by omega), fun b hb e => (at4 b e).elim (hd b hb) (fun h => by have := l2 b hb; omega)⟩
theorem size_str (w : World) : (sizeOf 9).run Try.prog w = .ok 1 w := by
  have h : (Try.prog.info? 9).map (fun i => i.size) = some 1 := by kernel_rfl
  cases hi : Try.prog.info? 9 with
  | none => rw [hi] at h; cases h
  | some i => rw [hi] at h; simp at h; simp [sizeOf, typeInfo, hi, h]
theorem ix_slice {P : Program} (W : World) (T e b off N c : Nat) (z : Int) (k : Nat) (hu : P.underlying T = some (.slice e)) (hs : (sizeOf e).run P W = .ok 1 W) (hz : z = (k : Int)) (hk : k < N) :
    (Instr.indexAt T (.slice (some ⟨b, off, none⟩) N c) (.int .i64 z)).run P W = .ok (.pointer (some ⟨b, off + k, none⟩)) W := by
  subst hz
  have h : (0 : Int) ≤ (k : Int) ∧ (k : Int) < (N : Int) := by omega
  simp [Instr.indexAt, run_underlying hu, asIntOf, h, hs, Addr.add_mid]
  intro h'
  omega
section
variable {ops : Array Oper} {S : World → Prop} {a : Act}
theorem wanted_no {o oj : Oper} {j s : Nat} (hg : o.guard = some (j, false)) (hj : ops[j]? = some oj) (hd : oj.dst = some s) (hs : s < a.tmps.size) (he : a.eval (.tmp s) = .bool false) : Region.wanted o (yielded ops a.tmps) = true := by
  have h : a.tmps[s]? = some (.bool false) := by
    simp [Act.eval] at he
    rw [Array.getElem?_eq_getElem hs] at he ⊢
    simpa using he
  simp [Region.wanted, hg, yielded, hj, hd, h]
theorem y_moveG {dst : Option Nat} {ty : TypeId} {pos : String} {af : Array Edge} {g : Option (Nat × Bool)} {s : Nat} {v : Value} (hw : Region.wanted { dst := dst, op := .move (.tmp s), type := ty, pos := pos, after := af, guard := g } (yielded ops a.tmps) = true) (h : a.eval (.tmp s) = v) :
    YieldsIf Try.prog ops S { dst := dst, op := .move (.tmp s), type := ty, pos := pos, after := af, guard := g } v a := by
  refine Or.inl ⟨hw, fun W _ => ?_⟩
  clear hw
  generalize a.eval = ev at *
  simp [execOp, h]
theorem y_len {dst : Option Nat} {pos : String} {af : Array Edge} {s : Nat} {A : Option Addr} {N c : Nat} (h : a.eval (.tmp s) = .slice A N c) :
    YieldsIf Try.prog ops S { dst := dst, op := .call { callee := .builtin .len, args := #[.tmp s], argTypes := #[39] }, type := 3, pos := pos, after := af, guard := none } (.int .i64 (N : Int)) a := by
  refine Or.inl ⟨rfl, fun W _ => ?_⟩
  generalize a.eval = ev at *
  go_simp
theorem y_geq {dst : Option Nat} {ty : TypeId} {pos : String} {af : Array Edge} {s t n N : Nat} (h : a.eval (.tmp s) = .int .i64 (n : Int)) (h2 : a.eval (.tmp t) = .int .i64 (N : Int)) (hn : n < N) :
    YieldsIf Try.prog ops S { dst := dst, op := .binOp .geq 3 (.tmp s) (.tmp t) 3, type := ty, pos := pos, after := af, guard := none } (.bool false) a := by
  refine Or.inl ⟨rfl, fun W _ => ?_⟩
  generalize a.eval = ev at *
  have hlt : ¬ ((N : Int) ≤ (n : Int)) := by omega
  go_simp
theorem y_ixG {dst : Option Nat} {ty : TypeId} {pos : String} {af : Array Edge} {g : Option (Nat × Bool)} {s t gB N c n : Nat} (hw : Region.wanted { dst := dst, op := .indexAddr 39 (.tmp s) (.tmp t), type := ty, pos := pos, after := af, guard := g } (yielded ops a.tmps) = true) (h : a.eval (.tmp s) = .slice (some ⟨gB, 0, none⟩) N c) (h2 : a.eval (.tmp t) = .int .i64 (n : Int)) (hn : n < N) :
    YieldsIf Try.prog ops S { dst := dst, op := .indexAddr 39 (.tmp s) (.tmp t), type := ty, pos := pos, after := af, guard := g } (.pointer (some ⟨gB, 0 + n, none⟩)) a := by
  refine Or.inl ⟨hw, fun W _ => ?_⟩
  clear hw
  have hx := ix_slice W 39 9 gB 0 N c _ n Try.underlying39 (size_str W) rfl hn
  generalize a.eval = ev at *
  simp [execOp, h, h2, hx]
theorem y_loadG {dst : Option Nat} {ty : TypeId} {pos : String} {af : Array Edge} {g : Option (Nat × Bool)} {s : Nat} {A : Addr} {x : ByteArray} (hw : Region.wanted { dst := dst, op := .load 9 (.tmp s), type := ty, pos := pos, after := af, guard := g } (yielded ops a.tmps) = true) (h : a.eval (.tmp s) = .pointer (some A)) (hx : ∀ W, S W → W.cell? A = some (.string x)) :
    YieldsIf Try.prog ops S { dst := dst, op := .load 9 (.tmp s), type := ty, pos := pos, after := af, guard := g } (.string x) a := by
  refine Or.inl ⟨hw, fun W hW => ?_⟩
  have hc := hx W hW
  clear hw hx
  have ld : (Instr.loadAt 9 (.pointer (some A))).run Try.prog W = .ok (.string x) W := by go_simp <;> with_reducible rfl
  generalize a.eval = ev at *
  simp [execOp, h, ld]
theorem y_convG {dst : Option Nat} {ty : TypeId} {pos : String} {af : Array Edge} {g : Option (Nat × Bool)} {s : Nat} {v r : Value} (hw : Region.wanted { dst := dst, op := .convert 24 9 (.tmp s), type := ty, pos := pos, after := af, guard := g } (yielded ops a.tmps) = true) (h : a.eval (.tmp s) = v) (hx : ∀ W, S W → (convert 24 9 v).run Try.prog W = .ok r W) :
    YieldsIf Try.prog ops S { dst := dst, op := .convert 24 9 (.tmp s), type := ty, pos := pos, after := af, guard := g } r a := by
  refine Or.inl ⟨hw, fun W hW => ?_⟩
  have := hx W hW
  clear hw
  generalize a.eval = ev at *
  simp [execOp, h, this]
theorem y_neqG {dst : Option Nat} {ty : TypeId} {pos : String} {af : Array Edge} {g : Option (Nat × Bool)} {s t : Nat} {x : ByteArray} (hw : Region.wanted { dst := dst, op := .binOp .neq 9 (.tmp s) (.tmp t) 9, type := ty, pos := pos, after := af, guard := g } (yielded ops a.tmps) = true) (h : a.eval (.tmp s) = .string x) (h2 : a.eval (.tmp t) = .string x) :
    YieldsIf Try.prog ops S { dst := dst, op := .binOp .neq 9 (.tmp s) (.tmp t) 9, type := ty, pos := pos, after := af, guard := g } (.bool false) a := by
  refine Or.inl ⟨hw, fun W _ => ?_⟩
  clear hw
  generalize a.eval = ev at *
  have he : (x.toList == x.toList) = true := by simp
  go_simp
theorem y_pick {dst : Option Nat} {ty : TypeId} {pos : String} {af : Array Edge} {s t : Nat} (h : a.eval (.tmp s) = .bool false) (h2 : a.eval (.tmp t) = .bool false) :
    YieldsIf Try.prog ops S { dst := dst, op := .pick (.tmp s) (.const (.bool true)) (.tmp t), type := ty, pos := pos, after := af, guard := none } (.bool false) a := by
  refine Or.inl ⟨rfl, fun W _ => ?_⟩
  generalize a.eval = ev at *
  go_simp
end
noncomputable def reg37 : Code := (Try.f5.body.bind (regionOf 37)).getD .skip
set_option maxRecDepth 100000 in
set_option maxHeartbeats 4000000 in
theorem regC {code : Code} {act : Act} {w : World} {Q : Exit → Act → World → Prop} {vb : Value} {n N gN gT cN cT : Nat} {p t : ByteArray} {l : Bs} (hcode : code = reg37) (hz : 152 < act.tmps.size) (h17 : act.eval (.tmp 17) = .int .i64 (n : Int)) (h9 : act.eval (.tmp 9) = .slice (some ⟨gN, 0, none⟩) N cN) (h10 : act.eval (.tmp 10) = .slice (some ⟨gT, 0, none⟩) N cT) (h21 : act.eval (.tmp 21) = .string p) (h22 : act.eval (.tmp 22) = vb)
    (hnN : n < N) (ht : t = bs l) (cp : w.cell? ⟨gN, 0 + n, none⟩ = some (.string p)) (ct : w.cell? ⟨gT, 0 + n, none⟩ = some (.string t)) (hb : OwnB w 0 vb l)
    (k : Q .normal (Act.put (Act.put (Act.put (Act.put (Act.put (Act.put (Act.put (Act.put (Act.put (Act.put (Act.put (Act.put (Act.put (Act.put (Act.put (Act.put (Act.put (Act.put (Act.put (Act.put (Act.put act (some 132) (.int .i64 (n : Int))) (some 133) (.slice (some ⟨gN, 0, none⟩) N cN)) (some 134) (.int .i64 (N : Int))) (some 135) (.bool false)) (some 136) (.bool false)) (some 137) (.slice (some ⟨gN, 0, none⟩) N cN)) (some 138) (.int .i64 (n : Int))) (some 139) (.pointer (some ⟨gN, 0 + n, none⟩))) (some 140) (.string p)) (some 141) (.string p)) (some 142) (.bool false)) (some 143) (.bool false)) (some 144) (.bool false)) (some 145) (.slice (some ⟨gT, 0, none⟩) N cT)) (some 146) (.int .i64 (n : Int))) (some 147) (.pointer (some ⟨gT, 0 + n, none⟩))) (some 148) (.string t)) (some 149) vb) (some 150) (.string t)) (some 151) (.bool false)) (some 152) (.bool false)) w.drew) : code.wp Try.prog Q act w := by
  subst hcode
  subst ht
  generalize ht : bs l = t at *
  conv => arg 2; whnf
  refine wp_region_noPanic ?_
  have D0 : Off (fun _ => False) w w.drew := ⟨rfl, rfl, rfl, Nat.le_refl _, fun _ _ _ => rfl⟩
  refine wp_region_held_drew (S := fun V => V.cell? ⟨gN, 0 + n, none⟩ = some (.string p) ∧ V.cell? ⟨gT, 0 + n, none⟩ = some (.string t) ∧ OwnB V 0 vb l) (by kernel_rfl) ⟨D0.cell cp (fun h => h), D0.cell ct (fun h => h), hb.off D0 (fun _ _ h => h)⟩ (fun hHeld => ?_)
  refine wpAnyH_take (i := 0) (v := (.int .i64 (n : Int))) rfl (by kernel_rfl) (by kernel_rfl) (by kernel_rfl) (fun _ _ _ h => h) (y_moveG rfl (by (try simp (disch := decide) only [ev_oth]); exact h17)) hHeld ?_
  change wpAnyH _ _ _ _ _ _ _ (Act.put _ (some 132) _) _
  refine wpAnyH_take (i := 1) (v := (.slice (some ⟨gN, 0, none⟩) N cN)) rfl (by kernel_rfl) (by kernel_rfl) (by kernel_rfl) (fun _ _ _ h => h) (y_moveG rfl (by (try simp (disch := decide) only [ev_oth]); exact h9)) hHeld ?_
  change wpAnyH _ _ _ _ _ _ _ (Act.put _ (some 133) _) _
  refine wpAnyH_take (i := 2) (v := (.int .i64 (N : Int))) rfl (by kernel_rfl) (by kernel_rfl) (by kernel_rfl) (fun _ _ _ h => h) (y_len (by (try simp (disch := decide) only [ev_oth]); exact ev_same (by (try simp only [sz_put]); omega))) hHeld ?_
  change wpAnyH _ _ _ _ _ _ _ (Act.put _ (some 134) _) _
  refine wpAnyH_take (i := 3) (v := (.bool false)) rfl (by kernel_rfl) (by kernel_rfl) (by kernel_rfl) (fun _ _ _ h => h) (y_geq (by (try simp (disch := decide) only [ev_oth]); exact ev_same (by (try simp only [sz_put]); omega)) (by (try simp (disch := decide) only [ev_oth]); exact ev_same (by (try simp only [sz_put]); omega)) hnN) hHeld ?_
  change wpAnyH _ _ _ _ _ _ _ (Act.put _ (some 135) _) _
  refine wpAnyH_take (i := 4) (v := (.bool false)) rfl (by kernel_rfl) (by kernel_rfl) (by kernel_rfl) (fun _ _ _ h => h) (y_moveG rfl (by (try simp (disch := decide) only [ev_oth]); exact ev_same (by (try simp only [sz_put]); omega))) hHeld ?_
  change wpAnyH _ _ _ _ _ _ _ (Act.put _ (some 136) _) _
  have g9 : Act.eval (Act.put (Act.put (Act.put (Act.put (Act.put act (some 132) (.int .i64 (n : Int))) (some 133) (.slice (some ⟨gN, 0, none⟩) N cN)) (some 134) (.int .i64 (N : Int))) (some 135) (.bool false)) (some 136) (.bool false)) (.tmp 9) = .slice (some ⟨gN, 0, none⟩) N cN := by simp (disch := decide) only [ev_oth]; exact h9
  have g10 : Act.eval (Act.put (Act.put (Act.put (Act.put (Act.put act (some 132) (.int .i64 (n : Int))) (some 133) (.slice (some ⟨gN, 0, none⟩) N cN)) (some 134) (.int .i64 (N : Int))) (some 135) (.bool false)) (some 136) (.bool false)) (.tmp 10) = .slice (some ⟨gT, 0, none⟩) N cT := by simp (disch := decide) only [ev_oth]; exact h10
  have g17 : Act.eval (Act.put (Act.put (Act.put (Act.put (Act.put act (some 132) (.int .i64 (n : Int))) (some 133) (.slice (some ⟨gN, 0, none⟩) N cN)) (some 134) (.int .i64 (N : Int))) (some 135) (.bool false)) (some 136) (.bool false)) (.tmp 17) = .int .i64 (n : Int) := by simp (disch := decide) only [ev_oth]; exact h17
  have g21 : Act.eval (Act.put (Act.put (Act.put (Act.put (Act.put act (some 132) (.int .i64 (n : Int))) (some 133) (.slice (some ⟨gN, 0, none⟩) N cN)) (some 134) (.int .i64 (N : Int))) (some 135) (.bool false)) (some 136) (.bool false)) (.tmp 21) = .string p := by simp (disch := decide) only [ev_oth]; exact h21
  have g22 : Act.eval (Act.put (Act.put (Act.put (Act.put (Act.put act (some 132) (.int .i64 (n : Int))) (some 133) (.slice (some ⟨gN, 0, none⟩) N cN)) (some 134) (.int .i64 (N : Int))) (some 135) (.bool false)) (some 136) (.bool false)) (.tmp 22) = vb := by simp (disch := decide) only [ev_oth]; exact h22
  have g136 : Act.eval (Act.put (Act.put (Act.put (Act.put (Act.put act (some 132) (.int .i64 (n : Int))) (some 133) (.slice (some ⟨gN, 0, none⟩) N cN)) (some 134) (.int .i64 (N : Int))) (some 135) (.bool false)) (some 136) (.bool false)) (.tmp 136) = .bool false := ev_same (by simp only [sz_put]; omega)
  have gsz : 152 < ((Act.put (Act.put (Act.put (Act.put (Act.put act (some 132) (.int .i64 (n : Int))) (some 133) (.slice (some ⟨gN, 0, none⟩) N cN)) (some 134) (.int .i64 (N : Int))) (some 135) (.bool false)) (some 136) (.bool false))).tmps.size := by simp only [sz_put]; omega
  obtain ⟨fa, hfa⟩ : ∃ c : Act, (Act.put (Act.put (Act.put (Act.put (Act.put act (some 132) (.int .i64 (n : Int))) (some 133) (.slice (some ⟨gN, 0, none⟩) N cN)) (some 134) (.int .i64 (N : Int))) (some 135) (.bool false)) (some 136) (.bool false)) = c := ⟨_, rfl⟩
  rw [hfa] at g9 g10 g17 g21 g22 g136 gsz k ⊢
  clear hfa h9 h10 h17 h21 h22 hz
  refine wpAnyH_take (i := 5) (v := (.slice (some ⟨gN, 0, none⟩) N cN)) rfl (by kernel_rfl) (by kernel_rfl) (by kernel_rfl) (fun _ _ _ h => h) (y_moveG (by exact wanted_no (s := 136) rfl rfl rfl (by (try simp only [sz_put]); omega) (by (try simp (disch := decide) only [ev_oth]); exact g136)) (by (try simp (disch := decide) only [ev_oth]); exact g9)) hHeld ?_
  change wpAnyH _ _ _ _ _ _ _ (Act.put _ (some 137) _) _
  refine wpAnyH_take (i := 6) (v := (.int .i64 (n : Int))) rfl (by kernel_rfl) (by kernel_rfl) (by kernel_rfl) (fun _ _ _ h => h) (y_moveG (by exact wanted_no (s := 136) rfl rfl rfl (by (try simp only [sz_put]); omega) (by (try simp (disch := decide) only [ev_oth]); exact g136)) (by (try simp (disch := decide) only [ev_oth]); exact g17)) hHeld ?_
  change wpAnyH _ _ _ _ _ _ _ (Act.put _ (some 138) _) _
  refine wpAnyH_take (i := 7) (v := (.pointer (some ⟨gN, 0 + n, none⟩))) rfl (by kernel_rfl) (by kernel_rfl) (by kernel_rfl) (fun _ _ _ h => h) (y_ixG (by exact wanted_no (s := 136) rfl rfl rfl (by (try simp only [sz_put]); omega) (by (try simp (disch := decide) only [ev_oth]); exact g136)) (by (try simp (disch := decide) only [ev_oth]); exact ev_same (by (try simp only [sz_put]); omega)) (by (try simp (disch := decide) only [ev_oth]); exact ev_same (by (try simp only [sz_put]); omega)) hnN) hHeld ?_
  change wpAnyH _ _ _ _ _ _ _ (Act.put _ (some 139) _) _
  refine wpAnyH_take (i := 8) (v := (.string p)) rfl (by kernel_rfl) (by kernel_rfl) (by kernel_rfl) (fun _ _ _ h => h) (y_loadG (by exact wanted_no (s := 136) rfl rfl rfl (by (try simp only [sz_put]); omega) (by (try simp (disch := decide) only [ev_oth]); exact g136)) (by (try simp (disch := decide) only [ev_oth]); exact ev_same (by (try simp only [sz_put]); omega)) (fun V hV => hV.1)) hHeld ?_
  change wpAnyH _ _ _ _ _ _ _ (Act.put _ (some 140) _) _
  refine wpAnyH_take (i := 9) (v := (.string p)) rfl (by kernel_rfl) (by kernel_rfl) (by kernel_rfl) (fun _ _ _ h => h) (y_moveG (by exact wanted_no (s := 136) rfl rfl rfl (by (try simp only [sz_put]); omega) (by (try simp (disch := decide) only [ev_oth]); exact g136)) (by (try simp (disch := decide) only [ev_oth]); exact g21)) hHeld ?_
  change wpAnyH _ _ _ _ _ _ _ (Act.put _ (some 141) _) _
  refine wpAnyH_take (i := 10) (v := (.bool false)) rfl (by kernel_rfl) (by kernel_rfl) (by kernel_rfl) (fun _ _ _ h => h) (y_neqG (by exact wanted_no (s := 136) rfl rfl rfl (by (try simp only [sz_put]); omega) (by (try simp (disch := decide) only [ev_oth]); exact g136)) (by (try simp (disch := decide) only [ev_oth]); exact ev_same (by (try simp only [sz_put]); omega)) (by (try simp (disch := decide) only [ev_oth]); exact ev_same (by (try simp only [sz_put]); omega))) hHeld ?_
  change wpAnyH _ _ _ _ _ _ _ (Act.put _ (some 142) _) _
  refine wpAnyH_take (i := 11) (v := (.bool false)) rfl (by kernel_rfl) (by kernel_rfl) (by kernel_rfl) (fun _ _ _ h => h) (y_pick (by (try simp (disch := decide) only [ev_oth]); exact g136) (by (try simp (disch := decide) only [ev_oth]); exact ev_same (by (try simp only [sz_put]); omega))) hHeld ?_
  change wpAnyH _ _ _ _ _ _ _ (Act.put _ (some 143) _) _
  refine wpAnyH_take (i := 12) (v := (.bool false)) rfl (by kernel_rfl) (by kernel_rfl) (by kernel_rfl) (fun _ _ _ h => h) (y_moveG rfl (by (try simp (disch := decide) only [ev_oth]); exact ev_same (by (try simp only [sz_put]); omega))) hHeld ?_
  change wpAnyH _ _ _ _ _ _ _ (Act.put _ (some 144) _) _
  refine wpAnyH_take (i := 13) (v := (.slice (some ⟨gT, 0, none⟩) N cT)) rfl (by kernel_rfl) (by kernel_rfl) (by kernel_rfl) (fun _ _ _ h => h) (y_moveG (by exact wanted_no (s := 144) rfl rfl rfl (by (try simp only [sz_put]); omega) (by (try simp (disch := decide) only [ev_oth]); exact ev_same (by (try simp only [sz_put]); omega))) (by (try simp (disch := decide) only [ev_oth]); exact g10)) hHeld ?_
  change wpAnyH _ _ _ _ _ _ _ (Act.put _ (some 145) _) _
  refine wpAnyH_take (i := 14) (v := (.int .i64 (n : Int))) rfl (by kernel_rfl) (by kernel_rfl) (by kernel_rfl) (fun _ _ _ h => h) (y_moveG (by exact wanted_no (s := 144) rfl rfl rfl (by (try simp only [sz_put]); omega) (by (try simp (disch := decide) only [ev_oth]); exact ev_same (by (try simp only [sz_put]); omega))) (by (try simp (disch := decide) only [ev_oth]); exact g17)) hHeld ?_
  change wpAnyH _ _ _ _ _ _ _ (Act.put _ (some 146) _) _
  refine wpAnyH_take (i := 15) (v := (.pointer (some ⟨gT, 0 + n, none⟩))) rfl (by kernel_rfl) (by kernel_rfl) (by kernel_rfl) (fun _ _ _ h => h) (y_ixG (by exact wanted_no (s := 144) rfl rfl rfl (by (try simp only [sz_put]); omega) (by (try simp (disch := decide) only [ev_oth]); exact ev_same (by (try simp only [sz_put]); omega))) (by (try simp (disch := decide) only [ev_oth]); exact ev_same (by (try simp only [sz_put]); omega)) (by (try simp (disch := decide) only [ev_oth]); exact ev_same (by (try simp only [sz_put]); omega)) hnN) hHeld ?_
  change wpAnyH _ _ _ _ _ _ _ (Act.put _ (some 147) _) _
  refine wpAnyH_take (i := 16) (v := (.string t)) rfl (by kernel_rfl) (by kernel_rfl) (by kernel_rfl) (fun _ _ _ h => h) (y_loadG (by exact wanted_no (s := 144) rfl rfl rfl (by (try simp only [sz_put]); omega) (by (try simp (disch := decide) only [ev_oth]); exact ev_same (by (try simp only [sz_put]); omega))) (by (try simp (disch := decide) only [ev_oth]); exact ev_same (by (try simp only [sz_put]); omega)) (fun V hV => hV.2.1)) hHeld ?_
  change wpAnyH _ _ _ _ _ _ _ (Act.put _ (some 148) _) _
  refine wpAnyH_take (i := 17) (v := vb) rfl (by kernel_rfl) (by kernel_rfl) (by kernel_rfl) (fun _ _ _ h => h) (y_moveG (by exact wanted_no (s := 144) rfl rfl rfl (by (try simp only [sz_put]); omega) (by (try simp (disch := decide) only [ev_oth]); exact ev_same (by (try simp only [sz_put]); omega))) (by (try simp (disch := decide) only [ev_oth]); exact g22)) hHeld ?_
  change wpAnyH _ _ _ _ _ _ _ (Act.put _ (some 149) _) _
  refine wpAnyH_take (i := 18) (v := (.string t)) rfl (by kernel_rfl) (by kernel_rfl) (by kernel_rfl) (fun _ _ _ h => h) (y_convG (by exact wanted_no (s := 144) rfl rfl rfl (by (try simp only [sz_put]); omega) (by (try simp (disch := decide) only [ev_oth]); exact ev_same (by (try simp only [sz_put]); omega))) (by (try simp (disch := decide) only [ev_oth]); exact ev_same (by (try simp only [sz_put]); omega)) (fun V hV => (ownB_conv hV.2.2).trans (by rw [ht]))) hHeld ?_
  change wpAnyH _ _ _ _ _ _ _ (Act.put _ (some 150) _) _
  refine wpAnyH_take (i := 19) (v := (.bool false)) rfl (by kernel_rfl) (by kernel_rfl) (by kernel_rfl) (fun _ _ _ h => h) (y_neqG (by exact wanted_no (s := 144) rfl rfl rfl (by (try simp only [sz_put]); omega) (by (try simp (disch := decide) only [ev_oth]); exact ev_same (by (try simp only [sz_put]); omega))) (by (try simp (disch := decide) only [ev_oth]); exact ev_same (by (try simp only [sz_put]); omega)) (by (try simp (disch := decide) only [ev_oth]); exact ev_same (by (try simp only [sz_put]); omega))) hHeld ?_
  change wpAnyH _ _ _ _ _ _ _ (Act.put _ (some 151) _) _
  refine wpAnyH_take (i := 20) (v := (.bool false)) rfl (by kernel_rfl) (by kernel_rfl) (by kernel_rfl) (fun _ _ _ h => h) (y_pick (by (try simp (disch := decide) only [ev_oth]); exact ev_same (by (try simp only [sz_put]); omega)) (by (try simp (disch := decide) only [ev_oth]); exact ev_same (by (try simp only [sz_put]); omega))) hHeld ?_
  change wpAnyH _ _ _ _ _ _ _ (Act.put _ (some 152) _) _
  refine wpAnyH_done (by kernel_rfl) ?_ _
  exact NoPanic.normal k
end Go.Proofs.Ytbodkjifpmencaa
