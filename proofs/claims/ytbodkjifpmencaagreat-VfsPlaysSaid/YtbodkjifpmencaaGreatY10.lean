/-
  Of the proof that disks answer every script as the document says: the parts VX VY VZ. No conditions.
-/
import Derived.Test.YtbodkjifpmencaaGreatY08
import Derived.Test.YtbodkjifpmencaaGreatY09
import Derived.Test.YtbodkjifpmencaaGreatY05
namespace Go.Proofs.YtbodkjifpmencaaGreat
open Go.RowKit
open Go.Lib
open Go.Maps Go.Sort Go.Shelf

theorem sortsS (m : Nat) : AnyZ.SortsIn Tryz.prog Tryz.sortedS_ren Fence.wide m :=
  ⟨fun blk off cap ss W hH hblk hsz => callsIn_wide.2 (AnyM.slices_Sort_string Tryz.sortS blk off cap ss W hH hblk hsz),
   fun p cap W => callsIn_wide.2 (AnyM.slices_Sort_string_none Tryz.sortS p cap W)⟩
theorem sortsI (m : Nat) : AnyZI.SortsIn Tryz.prog Tryz.sortedI_ren Fence.wide m :=
  ⟨fun blk off cap ss W hH hblk hsz => callsIn_wide.2 (AnyM.slices_Sort_int Tryz.sortI blk off cap ss W hH hblk hsz),
   fun p cap W => callsIn_wide.2 (AnyM.slices_Sort_int_none Tryz.sortI p cap W)⟩
/-- maps.Keys: a function over the map. -/
theorem keysI_any (mb : Option Nat) (w : World) : Calls Tryz.prog 53 #[.map mb] w fun e w' => e = .returned (.func (.func 72) #[] #[.pointer (some ⟨w.heap.size, 0, none⟩)]) ∧ w' = w.alloc (.cells #[.map mb] 56) :=
  (callsIn_wide (n := 5)).1 (AnyZI.keys_in Tryz.keysI Fence.wide 5 trivial rfl mb w)
theorem keysS_any (mb : Option Nat) (w : World) : Calls Tryz.prog 56 #[.map mb] w fun e w' => e = .returned (.func (.func 74) #[] #[.pointer (some ⟨w.heap.size, 0, none⟩)]) ∧ w' = w.alloc (.cells #[.map mb] 55) :=
  (callsIn_wide (n := 5)).1 (AnyZ.keys_in Tryz.keysS Fence.wide 5 trivial rfl mb w)
set_option maxHeartbeats 1000000 in
theorem sortedI_any (b : Nat) (E : Ents) (w : World) (hM : MapIs Tryz.prog 3 b E w) (hl : E.length ≤ 1048576) :
    Calls Tryz.prog 52 #[.func (.func 72) #[] #[.pointer (some ⟨w.heap.size, 0, none⟩)]] (w.alloc (.cells #[.map (some b)] 56)) fun e w' => ∃ (v : Value) (ss D : List Int), e = .returned v ∧ ss.Perm D ∧ (∃ es : List (Lit × DataW Value), es.Perm (datE E) ∧ D = intKeys (.map es)) ∧
      w'.ownsRow w.heap.size 3 1 v ss.length ((ss.mergeSort (fun x y => decide (x ≤ y))).map encZ) ∧ Below w.heap.size w w' := by
  obtain ⟨_, es, hown, hp⟩ := hM
  have hbl := hown.lt
  have hsz : Maps.size (DataW.map es) = E.length := by rw [Maps.size_eq, hp.length_eq, length_datE]
  have hseq : SeqGives Fence.wide 2 Tryz.prog 72 #[.pointer (some ⟨w.heap.size, 0, none⟩)] encZ (fun ss => ss.Perm (intKeys (DataW.map es))) (Maps.size (DataW.map es)) (w.alloc (.cells #[.map (some b)] 56)) :=
    AnyZI.keys_gives (ρ := Tryz.keysI_ren) { Tryz.keysI with } Fence.wide _ trivial rfl (by omega) w.heap.size b E.length (DataW.map es) _ (by simp) (by simp) (by
      obtain ⟨es2, clock, hb, Ft, hs, hD⟩ := hown
      exact ⟨es2, clock, (Below.heap_alloc _ _ b hbl).trans hb, Ft, hs, hD⟩)
  have cS := AnyZI.sorted_in Tryz.sortedI Fence.wide 5 trivial trivial trivial trivial rfl (by omega) (sortsI _) (enters_of Tryz.func71 (by kernel_rfl) rfl) 72 #[.pointer (some ⟨w.heap.size, 0, none⟩)] trivial (enters_of Tryz.func72 (by kernel_rfl) rfl) _ _ (by rw [hsz]; unfold maxLen; omega) (by rw [hsz]; omega) _ hseq
  change CallsIn _ _ Tryz.prog 52 _ _ _ at cS
  refine (callsIn_wide.1 cS).mono fun e w' ⟨v, ss, h1, h2, h3, _, h5⟩ => ⟨v, ss, _, h1, h2, ⟨es, hp, rfl⟩, ownsRow_base_a h3 (by simp), ?_⟩
  exact ((Below.refl _ w).alloc (Nat.le_refl _) _).trans (h5.mono (by simp))
set_option maxHeartbeats 1000000 in
theorem sortedS_any (b : Nat) (E : Ents) (w : World) (hM : MapIs Tryz.prog 9 b E w) (hl : E.length ≤ 1048576) :
    Calls Tryz.prog 55 #[.func (.func 74) #[] #[.pointer (some ⟨w.heap.size, 0, none⟩)]] (w.alloc (.cells #[.map (some b)] 55)) fun e w' => ∃ (v : Value) (ss : List Bs), e = .returned v ∧ ss.Perm (E.map fun p => strOf p.1) ∧
      w'.ownsRow w.heap.size 9 1 v ss.length ((ss.mergeSort (fun x y => decide (x ≤ y))).map encStr) ∧ Below w.heap.size w w' := by
  obtain ⟨_, es, hown, hp⟩ := hM
  have hbl := hown.lt
  have hsz : Maps.size (DataW.map es) = E.length := by rw [Maps.size_eq, hp.length_eq, length_datE]
  have hkp : (strKeys (DataW.map es)).Perm (E.map fun p => strOf p.1) := by
    have := hp.map fun p => strOf p.1
    unfold datE at this
    rw [List.map_map] at this
    exact this
  have hseq : SeqGives Fence.wide 2 Tryz.prog 74 #[.pointer (some ⟨w.heap.size, 0, none⟩)] encStr (fun ss => ss.Perm (strKeys (DataW.map es))) (Maps.size (DataW.map es)) (w.alloc (.cells #[.map (some b)] 55)) :=
    AnyZ.keys_gives (ρ := Tryz.keysS_ren) { Tryz.keysS with } Fence.wide _ trivial rfl (by omega) w.heap.size b E.length (DataW.map es) _ (by simp) (by simp) (by
      obtain ⟨es2, clock, hb, Ft, hs, hD⟩ := hown
      exact ⟨es2, clock, (Below.heap_alloc _ _ b hbl).trans hb, Ft, hs, hD⟩)
  have cS := AnyZ.sorted_in Tryz.sortedS Fence.wide 5 trivial trivial trivial trivial rfl (by omega) (sortsS _) (enters_of Tryz.func40 (by kernel_rfl) rfl) 74 #[.pointer (some ⟨w.heap.size, 0, none⟩)] trivial (enters_of Tryz.func74 (by kernel_rfl) rfl) _ _ (by rw [hsz]; unfold maxLen; omega) (by rw [hsz]; omega) _ hseq
  change CallsIn _ _ Tryz.prog 55 _ _ _ at cS
  refine (callsIn_wide.1 cS).mono fun e w' ⟨v, ss, h1, h2, h3, _, h5⟩ => ⟨v, ss, h1, h2.trans hkp, ownsRow_base_a h3 (by simp), ?_⟩
  exact ((Below.refl _ w).alloc (Nat.le_refl _) _).trans (h5.mono (by simp))
/-- maps.Clone of names. -/
theorem cloneM_any (b : Nat) (E : Ents) (w : World) (hM : MapIs Tryz.prog 9 b E w) : Calls Tryz.prog 57 #[.map (some b)] w fun e w' => e = .returned (.map (some w.heap.size)) ∧ MapIs Tryz.prog 9 w.heap.size E w' ∧ Below w.heap.size w w' := by
  obtain ⟨hd, es, hown, hp⟩ := hM
  exact (AnyW.maps_Clone_owns Tryz.cloneM 9 hR b E.length (DataW.map es) w hown).mono fun e w' ⟨h1, h2, _, h4⟩ => ⟨h1, ⟨hd, es, h2, hp⟩, h4⟩
end Go.Proofs.YtbodkjifpmencaaGreat
namespace Go.Proofs.YtbodkjifpmencaaGreat
open Go.RowKit
open Go.Lib

/-- A step that may turn other blocks too. -/
structure StepX (X : Nat → Prop) (L : Lay) (q : Q) (w : World) (L' : Lay) (q' : Q) (w' : World) : Prop where
  d : L'.d = L.d
  tq : QD L' q' w'
  off : Off (fun b => foot L q b ∨ X b) w w'
  own : ∀ b, foot L' q' b → foot L q b ∨ w.heap.size ≤ b
theorem StepX.refl {X : Nat → Prop} {L : Lay} {q : Q} {w : World} (H : QD L q w) : StepX X L q w L q w := ⟨rfl, H, Off.refl _ _, fun _ h => .inl h⟩
theorem StepX.of {X : Nat → Prop} {L : Lay} {q : Q} {w : World} {L' : Lay} {q' : Q} {w' : World} (h : Step L q w L' q' w') : StepX X L q w L' q' w' := ⟨h.d, h.to, h.off.mono (fun _ h => .inl h), h.own⟩
theorem StepX.trans {X : Nat → Prop} {L1 L2 L3 : Lay} {q1 q2 q3 : Q} {w1 w2 w3 : World} (h : StepX X L1 q1 w1 L2 q2 w2) (k : StepX X L2 q2 w2 L3 q3 w3) : StepX X L1 q1 w1 L3 q3 w3 :=
  ⟨k.d.trans h.d, k.tq, h.off.trans k.off (fun b hb => hb.elim (fun hb => (h.own b hb).elim (fun h => .inl (.inl h)) .inr) (fun h => .inl (.inr h))), fun b hb => (k.own b hb).elim (h.own b) (fun hs => .inr (Nat.le_trans h.off.size hs))⟩
theorem StepX.side {X : Nat → Prop} {L : Lay} {q : Q} {w w' : World} (H : QD L q w) (ho : Off X w w') (hX : ∀ b, X b → ¬ foot L q b) : StepX X L q w L q w' := ⟨rfl, H.off ho hX, ho.mono (fun _ h => .inr h), fun _ h => .inl h⟩
theorem StepX.below {X : Nat → Prop} {L : Lay} {q : Q} {w w' : World} (H : QD L q w) (hb : Below w.heap.size w w') : StepX X L q w L q w' := StepX.of (Step.below H hb)
/-- A row of ints, of texts, as it reads. -/
theorem ri_of_row {w : World} {base : Nat} {v : Value} {ns : List Int} (h : w.ownsRow base 3 1 v ns.length (ns.map (Value.int .i64))) : ∃ A c, v = .slice A ns.length c ∧ RI w A ns ∧ (∀ b, aBlock A = some b → base ≤ b ∧ b < w.heap.size) ∧ ns.length ≤ c := by
  have hl := h.lt
  rcases h.2 with ⟨rfl, hn⟩ | ⟨g, cap, cur, rfl, hb, hh, hc, _⟩
  · exact ⟨none, 0, by rw [hn], fun hz => absurd hz (by omega), (fun b hb => by cases hb), by omega⟩
  · refine ⟨some ⟨g, 0, none⟩, cap, rfl, fun _ => ⟨g, 0, rfl, (hl g rfl).2, fun j hj => ?_⟩, (fun b hb => by cases hb; exact hl g rfl), hc⟩
    have := h.cells (g := g) rfl j (.int .i64 ns[j]) (by rw [List.getElem?_map, List.getElem?_eq_getElem hj]; rfl)
    rwa [Addr.add_mid] at this
def RT (w : World) (A : Option Addr) (ts : List Bs) : Prop :=
  0 < ts.length → ∃ b off, A = some ⟨b, off, none⟩ ∧ b < w.heap.size ∧ ∀ j (h : j < ts.length), w.cell? ⟨b, off + j, none⟩ = some (.string (bs ts[j]))
theorem rt_of_row {w : World} {base : Nat} {v : Value} {ts : List Bs} (h : w.ownsRow base 9 1 v ts.length (ts.map Go.Proofs.encStr)) : ∃ A c, v = .slice A ts.length c ∧ RT w A ts ∧ (∀ b, aBlock A = some b → base ≤ b ∧ b < w.heap.size) ∧ ts.length ≤ c := by
  have hl := h.lt
  rcases h.2 with ⟨rfl, hn⟩ | ⟨g, cap, cur, rfl, hb, hh, hc, _⟩
  · exact ⟨none, 0, by rw [hn], fun hz => absurd hz (by omega), (fun b hb => by cases hb), by omega⟩
  · refine ⟨some ⟨g, 0, none⟩, cap, rfl, fun _ => ⟨g, 0, rfl, (hl g rfl).2, fun j hj => ?_⟩, (fun b hb => by cases hb; exact hl g rfl), hc⟩
    have := h.cells (g := g) rfl j (Go.Proofs.encStr ts[j]) (by rw [List.getElem?_map, List.getElem?_eq_getElem hj]; rfl)
    rwa [Addr.add_mid] at this
theorem RT.off {F : Nat → Prop} {w w' : World} {A : Option Addr} {ts : List Bs} (h : RT w A ts) (ho : Off F w w') (hF : ∀ b, aBlock A = some b → ¬ F b) : RT w' A ts := fun hz => by
  obtain ⟨b, off, rfl, hb, hc⟩ := h hz
  have := ho.size
  exact ⟨b, off, rfl, by omega, fun j hj => ho.cell (hc j hj) (hF b rfl)⟩
/-- The disk's bodies that aren't all kept, sorted. -/
theorem sortedL {L : Lay} {q : Q} {w : World} (H : QD L q w) (hl : q.loose.length ≤ 1048576) :
    Calls Tryz.prog 52 #[.func (.func 72) #[] #[.pointer (some ⟨w.heap.size, 0, none⟩)]] (w.alloc (.cells #[.map (some L.ml)] 56)) fun e w' => ∃ A c, e = .returned (.slice A (looseS q).length c) ∧ RI w' A ((looseS q).map fun (k : Nat) => (k : Int)) ∧ (∀ b, aBlock A = some b → w.heap.size ≤ b ∧ b < w'.heap.size) ∧ Below w.heap.size w w' := by
  refine (sortedI_any L.ml (entL L q.loose) w H.loose (by unfold entL; rw [List.length_map]; exact hl)).mono fun e w' ⟨v, ss, D, h1, h2, ⟨es, hes, hD⟩, h4, h5⟩ => ?_
  have hp : ss.Perm ((q.loose.map (·.1)).map fun (k : Nat) => (k : Int)) := by
    refine h2.trans ?_
    rw [hD]
    have := hes.map fun p => Go.intOf p.1
    unfold datE entL at this
    rw [List.map_map, List.map_map] at this
    rw [List.map_map]
    exact this
  have hs := sort_cast ss _ hp
  have hlen : ss.length = ((looseS q).map fun (k : Nat) => (k : Int)).length := by
    rw [hp.length_eq]; unfold looseS; simp [(List.mergeSort_perm _ _).length_eq]
  have hrow : w'.ownsRow w.heap.size 3 1 v ((looseS q).map fun (k : Nat) => (k : Int)).length (((looseS q).map fun (k : Nat) => (k : Int)).map (Value.int .i64)) := by
    rw [← hlen]
    unfold looseS
    rw [← hs]
    exact h4
  obtain ⟨A, c, rfl, hRI, hbl, _⟩ := ri_of_row hrow
  exact ⟨A, c, by rw [h1]; simp, hRI, hbl, h5⟩
theorem sortedC {L : Lay} {q : Q} {w : World} (H : QD L q w) (hl : q.changes.length ≤ 1048576) :
    Calls Tryz.prog 55 #[.func (.func 74) #[] #[.pointer (some ⟨w.heap.size, 0, none⟩)]] (w.alloc (.cells #[.map (some L.mc)] 55)) fun e w' => ∃ A c, e = .returned (.slice A (dirsS q).length c) ∧ RT w' A (dirsS q) ∧ (∀ b, aBlock A = some b → w.heap.size ≤ b ∧ b < w'.heap.size) ∧ Below w.heap.size w w' := by
  refine (sortedS_any L.mc (entC L q.changes) w H.changes (by unfold entC; rw [List.length_map]; exact hl)).mono fun e w' ⟨v, ss, h1, h2, h4, h5⟩ => ?_
  have hp : ss.Perm (q.changes.map (·.1)) := by
    refine h2.trans ?_
    unfold entC
    rw [List.map_map]
    exact List.Perm.refl _
  have hs : ss.mergeSort (fun x y => decide (x ≤ y)) = dirsS q := mergeSort_of_perm hp
  have hlen : ss.length = (dirsS q).length := by rw [hp.length_eq, (dirsS_perm q).length_eq]
  rw [hs, hlen] at h4
  obtain ⟨A, c, rfl, hRI, hbl, _⟩ := rt_of_row h4
  exact ⟨A, c, h1, hRI, hbl, h5⟩
/-- The map of names is another one. -/
theorem QD.setMn {L : Lay} {q : Q} {w w1 w2 : World} (H : QD L q w) (n : Nm) (m : Nat) (hb : Below w.heap.size w w1) (hm : MapIs Tryz.prog 9 m (entN L n) w1) (hge : w.heap.size ≤ m) (g : w1.grownBy w2 (some L.d)) (q' : Q) (h1 : q'.bodies = q.bodies) (h2 : q'.names = n) (h3 : q'.kept = q.kept) (h4 : q'.changes = q.changes) (h5 : q'.loose = q.loose)
    (hd : Blk L.d (.cells (dcells { L with mn := m } q') TD (0, 0)) w2) : QD { L with mn := m } q' w2 := by
  have H1 := H.below hb
  have ho : Off (fun b => some L.d = some b) w1 w2 := Off.of_grown g
  have hq : ∀ k, qbody q' k = qbody q k := fun k => by unfold qbody; rw [h1]
  have hdl := H.disk.lt
  refine ⟨hd, ?_, ?_, ?_, ?_, ?_, ?_, ?_, ?_, ?_, ?_, H.kc, H.kl, H.cl, ?_, ?_⟩
  · rw [h2]; exact hm.off ho (fun e => by have := Option.some.inj e; omega)
  · rw [h3]; exact H1.kept.off ho (fun e => ne_kind H1.kd H1.kept.kind (by simp) (Option.some.inj e))
  · rw [h4]; exact H1.changes.off ho (fun e => ne_kind H1.kd H1.changes.kind (by simp) (Option.some.inj e))
  · rw [h5]; exact H1.loose.off ho (fun e => ne_kind H1.kd H1.loose.kind (by simp) (Option.some.inj e))
  · intro k hk; rw [h1] at hk; rw [hq]; exact ho.blk (H1.bod k hk) (fun e => ne_kind H1.kd (H1.kb hk) (by decide) (Option.some.inj e))
  · intro k hk; rw [h1] at hk; rw [hq]; exact (H1.row k hk).off ho (fun b hb e => ne_kind H1.kd (H1.kr hk hb) (by decide) (Option.some.inj e))
  · intro x hx; rw [h4] at hx; exact own_off (H1.chg x hx) ho (fun b hb e => ne_kind H1.kd (H1.kg hx hb) (by decide) (Option.some.inj e))
  · have := H.kept.lt; show m ≠ L.mq; omega
  · have := H.changes.lt; show m ≠ L.mc; omega
  · have := H.loose.lt; show m ≠ L.ml; omega
  · intro k j b hk hj; rw [h1] at hk hj; exact H.rows k j b hk hj
  · intro x y b hx hy; rw [h4] at hx hy; exact H.chs x y b hx hy
/-- No changes are left. -/
theorem QD.clearC {L : Lay} {q : Q} {w w' : World} (H : QD L q w) (g : w.grownBy w' (some L.mc)) (hm : MapIs Tryz.prog 9 L.mc [] w') : QD L { q with changes := [] } w' := by
  have ho : Off (fun b => some L.mc = some b) w w' := Off.of_grown g
  refine ⟨ho.blk H.disk (fun e => ne_kind H.changes.kind H.kd (by simp) (Option.some.inj e)), H.names.off ho (fun e => H.nc (Option.some.inj e).symm), H.kept.off ho (fun e => H.kc (Option.some.inj e).symm), hm, H.loose.off ho (fun e => H.cl (Option.some.inj e)), ?_, ?_, ?_, H.nk, H.nc, H.nl, H.kc, H.kl, H.cl, H.rows, fun x y b hx => by cases hx⟩
  · exact fun k hk => ho.blk (H.bod k hk) (fun e => ne_kind H.changes.kind (H.kb hk) (by simp) (Option.some.inj e))
  · exact fun k hk => (H.row k hk).off ho (fun b hb e => ne_kind H.changes.kind (H.kr hk hb) (by simp) (Option.some.inj e))
  · intro x hx; cases hx
end Go.Proofs.YtbodkjifpmencaaGreat
namespace Go.Proofs.YtbodkjifpmencaaGreat
open Go.RowKit
open Go.Lib

/-- What stays beside the disk: the numbers' box, the numbers' row. -/
def SideP (L : Lay) (q : Q) (w : World) (x : Nat) : Prop := x < w.heap.size ∧ ¬ foot L q x
def RelA (L : Lay) (q : Q) (_ks : List Int) (w2 : World) (kb : Nat) (P : Nat → Prop) (L' : Lay) (s : Q × List Int) (wr : World) : Prop :=
  StepX (fun b => b = kb) L q w2 L' s.1 wr ∧ Box kb s.2 wr P
theorem not_foot {L L' : Lay} {q q' : Q} {w w' : World} {X : Nat → Prop} (h : StepX X L q w L' q' w') {b : Nat} (hb : b < w.heap.size) (hf : ¬ foot L q b) : ¬ foot L' q' b := fun h' => (h.own b h').elim hf (fun h2 => absurd hb (Nat.not_lt.2 h2))
set_option maxRecDepth 100000 in
set_option maxHeartbeats 1000000 in
/-- One body's round: the region that reads its size, takes a number, lets it stay. -/
theorem stay_step {L : Lay} {q : Q} {w : World} {N : Nat} (hS : Small N q) (hN : N ≤ 1048576) {ks : List Int} (_hR : Range ks) (_hkl : ks.length ≤ 1048576) {kb : Nat} {P : Nat → Prop} (H : QD L q w) (_hB : Box kb ks w P) (hkb : ¬ foot L q kb) (hP : ∀ x, P x → ¬ foot L q x) (k : Nat) (hk : k < q.bodies.length)
    (v5 : World) (hb5 : Box kb (nextQ ks ((qbody q k).now.length - (qbody q k).kept)).2 v5 P) (ho : Off (fun b => b = kb) w v5) :
    Calls Tryz.prog 54 #[.pointer (some ⟨L.bl k, 0, none⟩), .int .i64 ((nextQ ks ((qbody q k).now.length - (qbody q k).kept)).1 : Int)] v5 fun e w' => e = .returned (.tuple #[]) ∧ ∃ L', StepX (fun b => b = kb) L q w L' (stay1Q (q, ks) k).1 w' ∧ Box kb (stay1Q (q, ks) k).2 w' P := by
  have st1 : StepX (fun b => b = kb) L q w L q v5 := StepX.side H ho (fun b hb => hb ▸ hkb)
  refine (stay_any st1.tq hS hN hk _ (stay_kept hS ks k)).mono fun e w' ⟨h1, v, h2⟩ => ⟨h1, _, st1.trans (StepX.of h2), ?_⟩
  exact hb5.off h2.off hkb hP
end Go.Proofs.YtbodkjifpmencaaGreat
