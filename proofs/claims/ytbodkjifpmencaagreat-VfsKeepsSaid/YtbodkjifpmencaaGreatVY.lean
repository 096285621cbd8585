/-
  Words for the walk of a crash: what may turn beside the disk's own blocks, sorted keys in memory. No conditions.
-/
import Derived.Test.YtbodkjifpmencaaGreatVX
import Derived.Test.YtbodkjifpmencaaGreatVfC
namespace Go.Proofs.YtbodkjifpmencaaGreat
open Go.RowKit
open Go.Lib

/-- A step that may turn other blocks too. -/
structure StepX (X : Nat → Prop) (L : Lay) (q : Q) (w : World) (L' : Lay) (q' : Q) (w' : World) : Prop where
  d : L'.d = L.d
  tq : QD L' q' w'
  off : Off (fun b => foot L q b ∨ X b) w w'
  own : ∀ b, foot L' q' b → foot L q b ∨ w.heap.size ≤ b
theorem StepX.refl {X : Nat → Prop} {L : Lay} {q : Q} {w : World} (H : QD L q w) : StepX X L q w L q w := ⟨rfl, H, Off.refl _ _, fun _ h => .inl h⟩
theorem StepX.of {X : Nat → Prop} {L : Lay} {q : Q} {w : World} {L' : Lay} {q' : Q} {w' : World} (h : Step L q w L' q' w') : StepX X L q w L' q' w' := ⟨h.d, h.to, h.off.mono (fun _ h => .inl h), h.own⟩
theorem StepX.trans {X : Nat → Prop} {L1 L2 L3 : Lay} {q1 q2 q3 : Q} {w1 w2 w3 : World} (h : StepX X L1 q1 w1 L2 q2 w2) (k : StepX X L2 q2 w2 L3 q3 w3) : StepX X L1 q1 w1 L3 q3 w3 :=
  ⟨k.d.trans h.d, k.tq, h.off.trans k.off (fun b hb => hb.elim (fun hb => (h.own b hb).elim (fun h => .inl (.inl h)) .inr) (fun h => .inl (.inr h))), fun b hb => (k.own b hb).elim (h.own b) (fun hs => .inr (Nat.le_trans h.off.size hs))⟩
theorem StepX.side {X : Nat → Prop} {L : Lay} {q : Q} {w w' : World} (H : QD L q w) (ho : Off X w w') (hX : ∀ b, X b → ¬ foot L q b) : StepX X L q w L q w' := ⟨rfl, H.off ho hX, ho.mono (fun _ h => .inr h), fun _ h => .inl h⟩
theorem StepX.below {X : Nat → Prop} {L : Lay} {q : Q} {w w' : World} (H : QD L q w) (hb : Below w.heap.size w w') : StepX X L q w L q w' := StepX.of (Step.below H hb)
/-- A row of ints, of texts, as it reads. -/
theorem ri_of_row {w : World} {base : Nat} {v : Value} {ns : List Int} (h : w.ownsRow base 3 1 v ns.length (ns.map (Value.int .i64))) : ∃ A c, v = .slice A ns.length c ∧ RI w A ns ∧ (∀ b, aBlock A = some b → base ≤ b ∧ b < w.heap.size) ∧ ns.length ≤ c := by
  have hl := h.lt
  rcases h.2 with ⟨rfl, hn⟩ | ⟨g, cap, cur, rfl, hb, hh, hc, _⟩
  · exact ⟨none, 0, by rw [hn], fun hz => absurd hz (by omega), (fun b hb => by cases hb), by omega⟩
  · refine ⟨some ⟨g, 0, none⟩, cap, rfl, fun _ => ⟨g, 0, rfl, (hl g rfl).2, fun j hj => ?_⟩, (fun b hb => by cases hb; exact hl g rfl), hc⟩
    have := h.cells (g := g) rfl j (.int .i64 ns[j]) (by rw [List.getElem?_map, List.getElem?_eq_getElem hj]; rfl)
    rwa [Addr.add_mid] at this
def RT (w : World) (A : Option Addr) (ts : List Bs) : Prop :=
  0 < ts.length → ∃ b off, A = some ⟨b, off, none⟩ ∧ b < w.heap.size ∧ ∀ j (h : j < ts.length), w.cell? ⟨b, off + j, none⟩ = some (.string (bs ts[j]))
theorem rt_of_row {w : World} {base : Nat} {v : Value} {ts : List Bs} (h : w.ownsRow base 9 1 v ts.length (ts.map Go.Proofs.encStr)) : ∃ A c, v = .slice A ts.length c ∧ RT w A ts ∧ (∀ b, aBlock A = some b → base ≤ b ∧ b < w.heap.size) ∧ ts.length ≤ c := by
  have hl := h.lt
  rcases h.2 with ⟨rfl, hn⟩ | ⟨g, cap, cur, rfl, hb, hh, hc, _⟩
  · exact ⟨none, 0, by rw [hn], fun hz => absurd hz (by omega), (fun b hb => by cases hb), by omega⟩
  · refine ⟨some ⟨g, 0, none⟩, cap, rfl, fun _ => ⟨g, 0, rfl, (hl g rfl).2, fun j hj => ?_⟩, (fun b hb => by cases hb; exact hl g rfl), hc⟩
    have := h.cells (g := g) rfl j (Go.Proofs.encStr ts[j]) (by rw [List.getElem?_map, List.getElem?_eq_getElem hj]; rfl)
    rwa [Addr.add_mid] at this
theorem RT.off {F : Nat → Prop} {w w' : World} {A : Option Addr} {ts : List Bs} (h : RT w A ts) (ho : Off F w w') (hF : ∀ b, aBlock A = some b → ¬ F b) : RT w' A ts := fun hz => by
  obtain ⟨b, off, rfl, hb, hc⟩ := h hz
  have := ho.size
  exact ⟨b, off, rfl, by omega, fun j hj => ho.cell (hc j hj) (hF b rfl)⟩
/-- The disk's bodies that aren't all kept, sorted. -/
theorem sortedL {L : Lay} {q : Q} {w : World} (H : QD L q w) (hl : q.loose.length ≤ 1048576) :
    Calls Tryz.prog 52 #[.func (.func 72) #[] #[.pointer (some ⟨w.heap.size, 0, none⟩)]] (w.alloc (.cells #[.map (some L.ml)] 56)) fun e w' => ∃ A c, e = .returned (.slice A (looseS q).length c) ∧ RI w' A ((looseS q).map fun (k : Nat) => (k : Int)) ∧ (∀ b, aBlock A = some b → w.heap.size ≤ b ∧ b < w'.heap.size) ∧ Below w.heap.size w w' := by
  refine (sortedI_any L.ml (entL L q.loose) w H.loose (by unfold entL; rw [List.length_map]; exact hl)).mono fun e w' ⟨v, ss, D, h1, h2, ⟨es, hes, hD⟩, h4, h5⟩ => ?_
  have hp : ss.Perm ((q.loose.map (·.1)).map fun (k : Nat) => (k : Int)) := by
    refine h2.trans ?_
    rw [hD]
    have := hes.map fun p => Go.intOf p.1
    unfold datE entL at this
    rw [List.map_map, List.map_map] at this
    rw [List.map_map]
    exact this
  have hs := sort_cast ss _ hp
  have hlen : ss.length = ((looseS q).map fun (k : Nat) => (k : Int)).length := by
    rw [hp.length_eq]; unfold looseS; simp [(List.mergeSort_perm _ _).length_eq]
  have hrow : w'.ownsRow w.heap.size 3 1 v ((looseS q).map fun (k : Nat) => (k : Int)).length (((looseS q).map fun (k : Nat) => (k : Int)).map (Value.int .i64)) := by
    rw [← hlen]
    unfold looseS
    rw [← hs]
    exact h4
  obtain ⟨A, c, rfl, hRI, hbl, _⟩ := ri_of_row hrow
  exact ⟨A, c, by rw [h1]; simp, hRI, hbl, h5⟩
theorem sortedC {L : Lay} {q : Q} {w : World} (H : QD L q w) (hl : q.changes.length ≤ 1048576) :
    Calls Tryz.prog 55 #[.func (.func 74) #[] #[.pointer (some ⟨w.heap.size, 0, none⟩)]] (w.alloc (.cells #[.map (some L.mc)] 55)) fun e w' => ∃ A c, e = .returned (.slice A (dirsS q).length c) ∧ RT w' A (dirsS q) ∧ (∀ b, aBlock A = some b → w.heap.size ≤ b ∧ b < w'.heap.size) ∧ Below w.heap.size w w' := by
  refine (sortedS_any L.mc (entC L q.changes) w H.changes (by unfold entC; rw [List.length_map]; exact hl)).mono fun e w' ⟨v, ss, h1, h2, h4, h5⟩ => ?_
  have hp : ss.Perm (q.changes.map (·.1)) := by
    refine h2.trans ?_
    unfold entC
    rw [List.map_map]
    exact List.Perm.refl _
  have hs : ss.mergeSort (fun x y => decide (x ≤ y)) = dirsS q := mergeSort_of_perm hp
  have hlen : ss.length = (dirsS q).length := by rw [hp.length_eq, (dirsS_perm q).length_eq]
  rw [hs, hlen] at h4
  obtain ⟨A, c, rfl, hRI, hbl, _⟩ := rt_of_row h4
  exact ⟨A, c, h1, hRI, hbl, h5⟩
/-- The map of names is another one. -/
theorem QD.setMn {L : Lay} {q : Q} {w w1 w2 : World} (H : QD L q w) (n : Nm) (m : Nat) (hb : Below w.heap.size w w1) (hm : MapIs Tryz.prog 9 m (entN L n) w1) (hge : w.heap.size ≤ m) (g : w1.grownBy w2 (some L.d)) (q' : Q) (h1 : q'.bodies = q.bodies) (h2 : q'.names = n) (h3 : q'.kept = q.kept) (h4 : q'.changes = q.changes) (h5 : q'.loose = q.loose)
    (hd : Blk L.d (.cells (dcells { L with mn := m } q') TD (0, 0)) w2) : QD { L with mn := m } q' w2 := by
  have H1 := H.below hb
  have ho : Off (fun b => some L.d = some b) w1 w2 := Off.of_grown g
  have hq : ∀ k, qbody q' k = qbody q k := fun k => by unfold qbody; rw [h1]
  have hdl := H.disk.lt
  refine ⟨hd, ?_, ?_, ?_, ?_, ?_, ?_, ?_, ?_, ?_, ?_, H.kc, H.kl, H.cl, ?_, ?_⟩
  · rw [h2]; exact hm.off ho (fun e => by have := Option.some.inj e; omega)
  · rw [h3]; exact H1.kept.off ho (fun e => ne_kind H1.kd H1.kept.kind (by simp) (Option.some.inj e))
  · rw [h4]; exact H1.changes.off ho (fun e => ne_kind H1.kd H1.changes.kind (by simp) (Option.some.inj e))
  · rw [h5]; exact H1.loose.off ho (fun e => ne_kind H1.kd H1.loose.kind (by simp) (Option.some.inj e))
  · intro k hk; rw [h1] at hk; rw [hq]; exact ho.blk (H1.bod k hk) (fun e => ne_kind H1.kd (H1.kb hk) (by decide) (Option.some.inj e))
  · intro k hk; rw [h1] at hk; rw [hq]; exact (H1.row k hk).off ho (fun b hb e => ne_kind H1.kd (H1.kr hk hb) (by decide) (Option.some.inj e))
  · intro x hx; rw [h4] at hx; exact own_off (H1.chg x hx) ho (fun b hb e => ne_kind H1.kd (H1.kg hx hb) (by decide) (Option.some.inj e))
  · have := H.kept.lt; show m ≠ L.mq; omega
  · have := H.changes.lt; show m ≠ L.mc; omega
  · have := H.loose.lt; show m ≠ L.ml; omega
  · intro k j b hk hj; rw [h1] at hk hj; exact H.rows k j b hk hj
  · intro x y b hx hy; rw [h4] at hx hy; exact H.chs x y b hx hy
/-- No changes are left. -/
theorem QD.clearC {L : Lay} {q : Q} {w w' : World} (H : QD L q w) (g : w.grownBy w' (some L.mc)) (hm : MapIs Tryz.prog 9 L.mc [] w') : QD L { q with changes := [] } w' := by
  have ho : Off (fun b => some L.mc = some b) w w' := Off.of_grown g
  refine ⟨ho.blk H.disk (fun e => ne_kind H.changes.kind H.kd (by simp) (Option.some.inj e)), H.names.off ho (fun e => H.nc (Option.some.inj e).symm), H.kept.off ho (fun e => H.kc (Option.some.inj e).symm), hm, H.loose.off ho (fun e => H.cl (Option.some.inj e)), ?_, ?_, ?_, H.nk, H.nc, H.nl, H.kc, H.kl, H.cl, H.rows, fun x y b hx => by cases hx⟩
  · exact fun k hk => ho.blk (H.bod k hk) (fun e => ne_kind H.changes.kind (H.kb hk) (by simp) (Option.some.inj e))
  · exact fun k hk => (H.row k hk).off ho (fun b hb e => ne_kind H.changes.kind (H.kr hk hb) (by simp) (Option.some.inj e))
  · intro x hx; cases hx
end Go.Proofs.YtbodkjifpmencaaGreat
