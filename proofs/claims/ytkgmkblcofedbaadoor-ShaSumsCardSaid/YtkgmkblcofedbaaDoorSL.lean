/-
  A range over a function whose iterator keeps state of its own in cells, and is never left early: the contract of such an iterator, and the law for its caller. No conditions.
-/
import Derived.RangeFuncNested
import Derived.RangeFuncBound
import Derived.RangeFuncCalls
import Derived.RangeFuncLeaves
import Derived.Test.YtkgmkblcofedbaaDoorSW
namespace Go.Proofs.YtkgmkblcofedbaaDoor
open Go.RowKit
open Go.Lib

/-- Every block of cells outside S stays as it lay; no block goes. -/
structure KX (S : Nat → Prop) (W W' : World) : Prop where
  size : W.heap.size ≤ W'.heap.size
  cells : ∀ (k : Nat) (o : Obj), ¬ S k → W.heap[k]? = some o → o.isCells = true → W'.heap[k]? = some o
theorem KX.refl (S : Nat → Prop) (W : World) : KX S W W := ⟨Nat.le_refl _, fun _ _ _ h _ => h⟩
theorem KX.trans {S : Nat → Prop} {A B C : World} (h : KX S A B) (k : KX S B C) : KX S A C := ⟨Nat.le_trans h.size k.size, fun i o hs ho hc => k.cells i o hs (h.cells i o hs ho hc) hc⟩
theorem KX.mono {S T : Nat → Prop} {A B : World} (h : KX S A B) (hst : ∀ k, S k → T k) : KX T A B := ⟨h.size, fun i o hs => h.cells i o (fun e => hs (hst i e))⟩
theorem KX.put (S : Nat → Prop) {W : World} {l : Nat} {o : Obj} (o' : Obj) (h : W.heap[l]? = some o) (hc : o.isCells = false) : KX S W (W.putObj l o') :=
  ⟨by simp, fun k x _ hk hx => (World.putObj_heap_other (fun e => by subst e; rw [h] at hk; cases hk; rw [hc] at hx; cases hx)).trans hk⟩
theorem KX.below (S : Nat → Prop) {W W' : World} (h : Below W.heap.size W W') : KX S W W' :=
  ⟨h.size, fun k _ _ hk _ => (h.block k (Array.getElem?_eq_some_iff.1 hk).1).trans hk⟩
theorem KX.set {S : Nat → Prop} (W : World) {b : Nat} (hb : S b) (j : Nat) (v : Value) : KX S W (W.setCell ⟨b, j, none⟩ v) :=
  ⟨by simp, fun k _ hs hk _ => (Below.heap_setCell W ⟨b, j, none⟩ v k (fun e => hs (by cases e; exact hb))).trans hk⟩
theorem KX.row {S : Nat → Prop} {W W' : World} (h : KX S W W') {b : Nat} {t : TypeId} {n : Nat} {f : Nat → Value} (hr : W.rowIs b t n f) (hb : ¬ S b) : W'.rowIs b t n f := by
  obtain ⟨c, hc, hn, hf⟩ := hr
  exact ⟨c, h.cells b _ hb hc rfl, hn, hf⟩
theorem KX.cell {S : Nat → Prop} {W W' : World} (h : KX S W W') {b j : Nat} {v : Value} (hr : W.cell? ⟨b, j, none⟩ = some v) (hb : ¬ S b) : W'.cell? ⟨b, j, none⟩ = some v := by
  obtain ⟨o, ho, hc⟩ := cells_of_cell hr
  have ho' : W.heap[b]? = some o := ho
  exact (World.cell?_of_block (w := W) (by rw [h.cells b o hb ho' hc, ho'])).trans hr

/-- AN ITERATOR THAT IS NEVER LEFT EARLY: it calls its body at all of xs, one after another; a round keeps J and every block of cells outside S. -/
def SeqAll {α : Type} (n : Nat) (P : Program) (g : Nat) (lb : Array Value) (Enc : α → Array Value → World → Prop) (S : Nat → Prop) (xs : List α) (Pre : World → Prop) : Prop :=
  ∀ (l : Nat) (J : List α → World → Prop) (W : World), Pre W → (∀ s A B, J s A → Below W.heap.size A B → J s B) →
    (∀ pre x rest ars W1, xs = pre ++ x :: rest → J pre W1 → W.heap.size ≤ W1.heap.size → Enc x ars W1 → YieldAt Fence.wide (n - 1) P l ars W1 fun e W' =>
      e = .returned (.bool true) ∧ J (pre ++ [x]) W' ∧ KX S W1 W' ∧ KeepsFrom W.heap.size W1 W') →
    J [] W →
    CallsIn Fence.wide n P g (#[.func (.yield l) #[] #[]] ++ lb) W fun e W' => (∃ v, e = .returned v) ∧ J xs W'

/-- How a round's body is left: it goes on. -/
def postA {α : Type} (B : Nat) (S : Nat → Prop) (I : List α → World → Prop) (xs : List α) (W : World) : Exit → Act → World → Prop
  | .normal, _, W' => KeepsFrom B W W' ∧ KX S W W' ∧ I xs W'
  | _, _, _ => False

variable {n : Nat} {P : Program}

theorem below_put {B : Nat} {W : World} {l : Nat} (o' : Obj) (hl : l < W.heap.size) (hB : B ≤ l) : Below B W (W.putObj l o') :=
  (Below.refl B W).grown (grownBy_putObj' W l o') (by omega) (fun k e => by cases e; omega)

theorem kf_mono {B B' : Nat} {W W' : World} (h : KeepsFrom B W W') (hb : B ≤ B') : KeepsFrom B' W W' := ⟨h.size, fun k o hk h0 ho => h.same k o (Nat.le_trans hb hk) h0 ho⟩
theorem kf_put {B : Nat} (W : World) {l : Nat} (o' : Obj) (hl : l < B) : KeepsFrom B W (W.putObj l o') := KeepsFrom.of_grownBy (grownBy_putObj' W l o') (fun j e => by cases e; exact hl)
theorem wpIn_rangeAll {α : Type} {g : Operand} {ps : Array Tmp} {assign body : Code} {Q : Exit → Act → World → Prop} {a : Act} {w : World}
    (h1 : 1 ≤ n) {gf : Nat} {lb : Array Value} (hg : a.eval g = .func (.func gf) #[] lb) (eg : ∀ args w, (callFunc gf args).run P w = .ok (.enter gf args) w)
    {Enc : α → Array Value → World → Prop} {S : Nat → Prop} {xs : List α} {Pre : World → Prop} (hseq : SeqAll (n - 1) P gf lb Enc S xs Pre)
    (hPre : ∀ V, Below w.heap.size w V → Pre V)
    (hEnc : ∀ x ars W, Enc x ars W → ars.size = ps.size)
    (I : List α → World → Prop) (hI : ∀ s A B, I s A → Below w.heap.size A B → I s B) (h0 : I [] w)
    (Ax : α → Act → World → Prop) (hAx : ∀ x a' W l o o', Ax x a' W → w.heap.size ≤ l → W.heap[l]? = some o → o.isCells = false → Ax x a' (W.putObj l o'))
    (hassign : ∀ (l : Nat) (pre : List α) (x : α) (ars : Array Value) (W : World) (K : Act → World → Prop), I pre W → w.heap.size ≤ W.heap.size → Enc x ars W → (∀ a' W', KeepsFrom w.heap.size W W' → KX S W W' → I pre W' → Ax x a' W' → K a' W') →
      assign.wpIn (Fence.wide.inRound l) (n - 1 - 1) P (Exit.then K (fun _ _ _ => False)) { tmps := (ps.zip ars).foldl (fun t (p, v) => t.setIfInBounds p v) a.tmps, defers := [] } W)
    (hbody : ∀ (l : Nat) (pre : List α) (x : α) (rest : List α) (a' : Act) (W : World), xs = pre ++ x :: rest → w.heap.size ≤ W.heap.size → I pre W → Ax x a' W → body.wpIn (Fence.wide.inRound l) (n - 1 - 1) P (postA w.heap.size S I (pre ++ [x]) W) a' W)
    (hdone : ∀ (D : Nat) (W : World), w.heap.size ≤ D → I xs W → W.heap[D]? = some (.deferred (some [])) → Q .normal { a with defers := { target := .collected D, args := #[] } :: a.defers } W) :
    (Code.rangeFunc g ps assign body).wpIn Fence.wide n P Q a w := by
  refine wpIn_rangeFunc ?_
  intro fn hfn
  rw [show Fence.wide.round = none from rfl]
  obtain ⟨rec, hrec⟩ : ∃ rec : LoopState → Option Code → Loop, rec = fun st pe => { state := st, pending := pe, fn, tmps := a.tmps, params := ps, assign, body, defers := w.heap.size } := ⟨_, rfl⟩
  obtain ⟨W1, hW1⟩ : ∃ W1, (w.alloc (.deferred (some []))).alloc (.loop (rec .ready none)) = W1 := ⟨_, rfl⟩
  have hL1 : W1.heap[w.heap.size + 1]? = some (.loop (rec .ready none)) := by
    rw [← hW1]; have := World.alloc_heap_new (w.alloc (.deferred (some []))) (.loop (rec .ready none)); rwa [World.size_alloc] at this
  have hK1 : W1.heap[w.heap.size]? = some (.deferred (some [])) := by
    rw [← hW1]; exact (Below.heap_alloc _ _ _ (by simp)).trans (World.alloc_heap_new w _)
  have hB1 : Below w.heap.size w W1 := by
    rw [← hW1]; exact ((Below.refl _ w).alloc (Nat.le_refl _) _).alloc (by simp) _
  have hs1 : W1.heap.size = w.heap.size + 2 := by rw [← hW1]; simp
  refine ⟨w.heap.size + 1, [{ target := .collected w.heap.size, args := #[] }], W1, { target := .fn (.func gf) lb, args := #[.func (.yield (w.heap.size + 1)) #[] #[]] }, W1, gf,
    #[.func (.yield (w.heap.size + 1)) #[] #[]] ++ lb, W1, ?_, ?_, ?_, ?_, fun _ => h1, ?_⟩
  · rw [← hW1, hrec]; exact run_enterLoop_outer _ _ _ _ _
  · simp only [resolve, hg]
    simp [go_sem]
  · intro f' _; exact trivial
  · simp [invoke, go_sem, eg]
  · refine (hseq (w.heap.size + 1)
      (fun pre W => I pre W ∧ W.heap[w.heap.size + 1]? = some (.loop (rec .ready none)) ∧ W.heap[w.heap.size]? = some (.deferred (some [])))
      W1 (hPre _ hB1)
      (fun s A B hs hb => ⟨hI s A B hs.1 (hb.mono (by omega)), (hb.block _ (by omega)).trans hs.2.1, (hb.block _ (by omega)).trans hs.2.2⟩)
      ?_ ⟨hI _ _ _ h0 hB1, hL1, hK1⟩).mono ?_
    · rintro pre x rest ars W hxs ⟨hi, hl, hk⟩ hsz henc
      have hlt : w.heap.size + 1 < W.heap.size := (Array.getElem?_eq_some_iff.1 hl).1
      have hy := run_yield (P := P) (args := ars) hl (by rw [hrec]; exact hEnc x ars W henc)
      rw [hrec] at hy
      refine ⟨fn, _, assign, body, hy, roundIn_of_wpIn hfn (hassign _ pre x ars W _ hi (by omega) henc ?_)⟩
      clear hy
      intro a' Wa hkfa hkpa hia hax
      replace hl := hkfa.same _ _ (by omega) hl rfl
      replace hk := hkfa.same _ _ (Nat.le_refl _) hk rfl
      replace hlt : w.heap.size + 1 < Wa.heap.size := (Array.getElem?_eq_some_iff.1 hl).1
      refine ⟨_, run_beginRound hl (by rw [hrec]), ?_⟩
      obtain ⟨Wb, hWb⟩ : ∃ Wb, Wa.putObj (w.heap.size + 1) (.loop { rec .ready none with state := .busy }) = Wb := ⟨_, rfl⟩
      have hl2 : Wb.heap[w.heap.size + 1]? = some (.loop { rec .ready none with state := .busy }) := by rw [← hWb]; exact World.putObj_heap_same hlt
      have hk2 : Wb.heap[w.heap.size]? = some (.deferred (some [])) := by rw [← hWb]; exact (World.putObj_heap_other (by omega)).trans hk
      have hw2 : KX S Wa Wb := by rw [← hWb]; exact KX.put S _ hl rfl
      have hi2 : I pre Wb := by rw [← hWb]; exact hI _ _ _ hia (below_put _ hlt (by omega))
      have hax2 : Ax x a' Wb := by rw [← hWb]; exact hAx _ _ _ _ _ _ hax (by omega) hl rfl
      have hsb : w.heap.size ≤ Wb.heap.size := by rw [← hWb]; simp; omega
      rw [hWb]
      refine wpIn_mono (hbody _ pre x rest a' Wb hxs hsb hi2 hax2) ?_
      rintro e a3 W3 hp
      cases e with
      | normal =>
        obtain ⟨hk3, hkp3, hi3⟩ := hp
        have hl3 := hk3.same _ _ (by omega) hl2 rfl
        have hr := run_endRound (P := P) none hl3
        rw [hrec] at hr
        have hlt3 := (Array.getElem?_eq_some_iff.1 hl3).1
        refine ⟨_, _, hr, rfl, ⟨hI _ _ _ hi3 (below_put _ hlt3 (by omega)), ?_, ?_⟩, (hkpa.trans hw2).trans (hkp3.trans (KX.put S _ hl3 rfl)), ?_⟩
        · rw [hrec]; exact World.putObj_heap_same hlt3
        · exact (World.putObj_heap_other (by omega)).trans (hk3.same _ _ (Nat.le_refl _) hk2 rfl)
        · rw [hs1]
          refine (kf_mono hkfa (by omega)).trans (KeepsFrom.trans ?_ ((kf_mono hk3 (by omega)).trans (kf_put W3 _ (by omega))))
          rw [← hWb]
          exact kf_put Wa _ (by omega)
      | ret => exact hp.elim
      | exit id => exact hp.elim
      | goto t => exact hp.elim
      | panic ch => exact hp.elim
      | outgrown => exact hp.elim
    · rintro e W2 ⟨⟨v, rfl⟩, hi, hl, hk⟩
      have hlt2 := (Array.getElem?_eq_some_iff.1 hl).1
      exact ⟨none, _, by have := run_endLoop (P := P) hl (by rw [hrec]; simp); rw [hrec] at this; exact this, hdone _ _ (Nat.le_refl _) (hI _ _ _ hi (below_put _ hlt2 (by omega))) ((World.putObj_heap_other (by omega)).trans hk)⟩
end Go.Proofs.YtkgmkblcofedbaaDoor
