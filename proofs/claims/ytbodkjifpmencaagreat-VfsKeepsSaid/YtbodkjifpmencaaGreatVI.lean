/-
  The walk of package vfs's newBody. Conditions: a disk of a modest size, bytes of a modest length.
-/
import Derived.Test.YtbodkjifpmencaaGreatVH
namespace Go.Proofs.YtbodkjifpmencaaGreat
open Go.RowKit
open Go.Lib

def addL (L : Lay) (n b : Nat) : Lay := { L with bl := upd L.bl n b, bv := upd L.bv n (.slice none 0 0) }
def addQ (q : Q) : Q := { q with bodies := q.bodies ++ [⟨[], 0⟩] }
theorem qbody_add (q : Q) (j : Nat) (hj : j < q.bodies.length + 1) : qbody (addQ q) j = if j = q.bodies.length then ⟨[], 0⟩ else qbody q j := by
  unfold qbody addQ
  simp only [List.getD]
  by_cases h : j = q.bodies.length
  · subst h; simp
  · rw [List.getElem?_append_left (by omega), if_neg h]
theorem entN_add (L : Lay) (n b : Nat) (l : Nm) (h : ∀ x ∈ l, x.2 < n) : entN (addL L n b) l = entN L l := by
  unfold entN addL
  refine List.map_congr_left (fun x hx => ?_)
  show (Lit.string x.1, ptr (upd L.bl n b x.2)) = _
  rw [upd_ne _ _ (Nat.ne_of_lt (h x hx))]
theorem entL_add (L : Lay) (n b : Nat) (l : List (Nat × Unit)) (h : ∀ x ∈ l, x.1 < n) : entL (addL L n b) l = entL L l := by
  unfold entL addL
  refine List.map_congr_left (fun x hx => ?_)
  show (Lit.int .i64 (x.1 : Int), ptr (upd L.bl n b x.1)) = _
  rw [upd_ne _ _ (Nat.ne_of_lt (h x hx))]
theorem ptrO_add (L : Lay) (n b : Nat) (o : Option Nat) (h : ∀ k, o = some k → k < n) : ptrO (addL L n b) o = ptrO L o := by
  cases o with
  | none => rfl
  | some k => show ptr (upd L.bl n b k) = _; rw [upd_ne _ _ (Nat.ne_of_lt (h k rfl))]; rfl
theorem cellsC_add (L : Lay) (n b : Nat) (cs : List QC) (h : ∀ c ∈ cs, ∀ k, c.body = some k → k < n) : cellsC (addL L n b) cs = cellsC L cs := by
  unfold cellsC
  induction cs with
  | nil => rfl
  | cons c r ih =>
    rw [List.flatMap_cons, List.flatMap_cons, ih (fun d hd => h d (by simp [hd])), ptrO_add _ _ _ _ (h c (by simp))]
/-- A body more. -/
theorem QD.addB {L : Lay} {q : Q} {w w1 w2 : World} (H : QD L q w) {N : Nat} (hS : Small N q) (hb : Blk w.heap.size (.cells (bcells q.bodies.length (.slice none 0 0) 0) TB (0, 0)) w1) (g1 : w.grownBy w1 none) (hd : Blk L.d (.cells (dcells (addL L q.bodies.length w.heap.size) (addQ q)) TD (0, 0)) w2) (g2 : w1.grownBy w2 (some L.d)) :
    QD (addL L q.bodies.length w.heap.size) (addQ q) w2 := by
  have H1 : QD L q w1 := H.off (Off.of_grown g1) (fun _ h => by cases h)
  have hdl : L.d < w.heap.size := H.disk.lt
  have hb2 := hb.grown g2 (fun e => by have := Option.some.inj e; omega)
  have ho : Off (fun b => some L.d = some b) w1 w2 := Off.of_grown g2
  refine ⟨hd, ?_, ?_, ?_, ?_, ?_, ?_, ?_, H.nk, H.nc, H.nl, H.kc, H.kl, H.cl, ?_, ?_⟩
  · rw [show (addQ q).names = q.names from rfl, entN_add _ _ _ _ (fun x hx => (hS.kn x hx).2)]
    exact H1.names.off ho (fun e => ne_kind H1.kd H1.names.kind (by simp) (Option.some.inj e))
  · rw [show (addQ q).kept = q.kept from rfl, entN_add _ _ _ _ (fun x hx => (hS.kk x hx).2)]
    exact H1.kept.off ho (fun e => ne_kind H1.kd H1.kept.kind (by simp) (Option.some.inj e))
  · exact H1.changes.off ho (fun e => ne_kind H1.kd H1.changes.kind (by simp) (Option.some.inj e))
  · rw [show (addQ q).loose = q.loose from rfl, entL_add _ _ _ _ hS.kl]
    exact H1.loose.off ho (fun e => ne_kind H1.kd H1.loose.kind (by simp) (Option.some.inj e))
  · intro k hk
    have hk' : k < q.bodies.length + 1 := by simpa [addQ] using hk
    rw [qbody_add q k hk']
    by_cases e : k = q.bodies.length
    · subst e
      simp only [if_true, addL, upd_same]
      exact hb2
    · simp only [if_neg e, addL, upd_ne _ _ e]
      have hk2 : k < q.bodies.length := by omega
      exact ho.blk (H1.bod k hk2) (fun e => ne_kind H1.kd (H1.kb hk2) (by decide) (Option.some.inj e))
  · intro k hk
    have hk' : k < q.bodies.length + 1 := by simpa [addQ] using hk
    rw [qbody_add q k hk']
    by_cases e : k = q.bodies.length
    · subst e
      simp only [if_true, addL, upd_same]
      exact World.ownsRow_nil _ _ _ _
    · simp only [if_neg e, addL, upd_ne _ _ e]
      have hk2 : k < q.bodies.length := by omega
      exact (H1.row k hk2).off ho (fun b hb e => ne_kind H1.kd (H1.kr hk2 hb) (by decide) (Option.some.inj e))
  · intro x hx
    rw [cellsC_add _ _ _ _ (fun c hc k hk => ((hS.kc x hx).2 c hc).2.2 k hk)]
    exact own_off (H1.chg x hx) ho (fun b hb e => ne_kind H1.kd (H1.kg hx hb) (by decide) (Option.some.inj e))
  · intro i j b hi hj hne h1 h2
    have hi' : i < q.bodies.length + 1 := by simpa [addQ] using hi
    have hj' : j < q.bodies.length + 1 := by simpa [addQ] using hj
    by_cases e : i = q.bodies.length
    · subst e
      simp only [addL, upd_same] at h1
      cases h1
    · by_cases f : j = q.bodies.length
      · subst f
        simp only [addL, upd_same] at h2
        cases h2
      · simp only [addL, upd_ne _ _ e] at h1
        simp only [addL, upd_ne _ _ f] at h2
        exact H.rows i j b (by omega) (by omega) hne h1 h2
  · exact H.chs
theorem foot_add {L : Lay} {q : Q} {w : World} {b : Nat} (h : foot (addL L q.bodies.length w.heap.size) (addQ q) b) : foot L q b ∨ w.heap.size ≤ b := by
  rcases h with h | h | h | h | h | ⟨j, hj, h⟩ | h
  · exact .inl (.inl h)
  · exact .inl (.inr (.inl h))
  · exact .inl (.inr (.inr (.inl h)))
  · exact .inl (.inr (.inr (.inr (.inl h))))
  · exact .inl (.inr (.inr (.inr (.inr (.inl h)))))
  · have hj' : j < q.bodies.length + 1 := by simpa [addQ] using hj
    by_cases e : j = q.bodies.length
    · subst e
      simp only [addL, upd_same] at h
      rcases h with h | h
      · exact .inr (Nat.le_of_eq h.symm)
      · cases h
    · simp only [addL, upd_ne _ _ e] at h
      exact .inl (.inr (.inr (.inr (.inr (.inr (.inl ⟨j, by omega, h⟩))))))
  · exact .inl (.inr (.inr (.inr (.inr (.inr (.inr h))))))
theorem RB.off' {F : Nat → Prop} {w w' : World} {A : Option Addr} {l : Bs} (h : RB w A l) (ho : Off F w w') (hF : 0 < l.length → ∀ b, aBlock A = some b → ¬ F b) : RB w' A l := fun hz => h.off ho (hF hz) hz
set_option maxRecDepth 100000 in
theorem newBody_any {L : Lay} {q : Q} {w : World} (H : QD L q w) {N : Nat} (hS : Small N q) (hN : N ≤ 1048576) (b : Bs) (A : Option Addr) (c : Nat) (hA : RB w A b) (hbl : b.length ≤ 1048576) (hAF : 0 < b.length → ∀ x, aBlock A = some x → ¬ foot L q x) :
    Calls Tryz.prog 46 #[ptr L.d, .slice A b.length c] w fun e w' => ∃ L', e = .returned (ptr (L'.bl q.bodies.length)) ∧ Step L q w L' (newBodyQ q b) w' := by
  obtain ⟨n, hn⟩ : ∃ n, q.bodies.length = n := ⟨_, rfl⟩
  have hnN : n ≤ 1048576 := by have := hS.nb; omega
  obtain ⟨w1, hw1⟩ : ∃ W, w.alloc (.cells #[.int .i64 (n : Int), .slice none 0 0, .int .i64 0] TB) = W := ⟨_, rfl⟩
  have hB : Blk w.heap.size (.cells (bcells n (.slice none 0 0) 0) TB (0, 0)) w1 := by rw [← hw1]; exact Blk.new _ _
  have g1 : w.grownBy w1 none := by rw [← hw1]; exact grown_alloc _ _ _
  have hd1 : Blk L.d (.cells (dcells L q) TD (0, 0)) w1 := H.disk.grown g1 (by simp)
  have c5 : w.cell? ⟨L.d, 5, none⟩ = some (.int .i64 (n : Int)) := by rw [← hn]; exact H.c5
  have c5' : ∀ o, (w.alloc o).cell? ⟨L.d, 5, none⟩ = some (.int .i64 (n : Int)) := fun o => by rw [← hn]; exact (H.disk.grown (grown_alloc w o none) (by simp)).cell 5
  have f5' : ∀ o, (w.alloc o).frozen? ⟨L.d, 5, none⟩ = false := fun o => (H.disk.grown (grown_alloc w o none) (by simp)).free 5
  obtain ⟨w2, hw2⟩ : ∃ W, w1.setCell ⟨L.d, 5, none⟩ (.int .i64 ((n : Int) + 1)) = W := ⟨_, rfl⟩
  have g2 : w1.grownBy w2 (some L.d) := by rw [← hw2]; exact grown_set _ _ _ _
  have hd2 : Blk L.d (.cells (dcells (addL L n w.heap.size) (addQ q)) TD (0, 0)) w2 := by
    have h := hd1.set 5 (.int .i64 ((n : Int) + 1))
    rw [hw2] at h
    have e : (dcells L q).setIfInBounds 5 (.int .i64 ((n : Int) + 1)) = dcells (addL L n w.heap.size) (addQ q) := by
      simp [dcells, addL, addQ, hn]
    rw [e] at h
    exact h
  have H2 : QD (addL L n w.heap.size) (addQ q) w2 := by
    rw [← hn] at hB hd2 ⊢
    exact H.addB hS hB g1 hd2 g2
  have o2 : Off (foot L q) w w2 := ((Off.of_grown g1).mono (fun _ h => by cases h)).trans (Off.of_grown g2) (fun x h => .inl (.inl (Option.some.inj h).symm))
  have hA2 : RB w2 A b := hA.off' o2 hAF
  have st1 : Step L q w (addL L n w.heap.size) (addQ q) w2 := ⟨rfl, H2, o2, fun x hx => foot_add (by rw [hn]; exact hx)⟩
  have hbl2 : (addL L n w.heap.size).bl n = w.heap.size := upd_same _ _ _
  have hlen : n < (addQ q).bodies.length := by simp [addQ, hn]
  have hcall : Calls Tryz.prog 49 #[ptr L.d, ptr w.heap.size, .slice A b.length c] w2 fun e w' => e = .returned (.tuple #[]) ∧ ∃ L', L'.bl n = w.heap.size ∧ Step (addL L n w.heap.size) (addQ q) w2 L' (extendQ (addQ q) n b) w' := by
    by_cases hb0 : b = []
    · subst hb0
      have h := extend_nil H2 n A c
      rw [hbl2] at h
      refine h.mono (fun e w' ⟨h1, h2⟩ => ⟨h1, _, hbl2, ?_⟩)
      have e : extendQ (addQ q) n [] = addQ q := by unfold extendQ; rw [if_pos rfl]
      rw [e]; exact h2
    · have hpos : 0 < b.length := by cases b with | nil => exact absurd rfl hb0 | cons _ _ => simp
      have hq : qbody (addQ q) n = ⟨[], 0⟩ := by rw [← hn, qbody_add q _ (by omega), if_pos rfl]
      have h := extend_some H2 hlen b A c hA2 hpos (by rw [hq]; simp; omega) (by omega) (Nat.le_trans hS.nl hN)
      rw [hbl2] at h
      exact h.mono (fun e w' ⟨h1, v, h2⟩ => ⟨h1, upB (addL L n w.heap.size) n v, hbl2, h2⟩)
  have HQ : Hid (newBodyQ q b = extendQ (addQ q) n b) := Lib.hid (by unfold newBodyQ; rw [hn]; rfl)
  have HCA := Lib.hid hcall
  have HST := Lib.hid st1
  have HW1 := Lib.hid hw1
  have HW2 := Lib.hid hw2
  obtain ⟨nb, hnb⟩ : ∃ m, b.length = m := ⟨_, rfl⟩
  rw [hnb] at HCA ⊢
  clear hcall st1 H2 H hB hd1 hd2 hA hA2 o2 hw1 hw2 g1 g2 hbl2 hlen hS hnb hbl
  rw [hn]
  have HN := Lib.hid hn
  clear hn
  unfold ptr at HCA ⊢
  go_enter Tryz.func46, Tryz.ntmps46
  go_wp2_with (go_at_call 49; rw [HW1.out, HW2.out]; (with_reducible refine HCA.out.mono ?_); rintro e w3 ⟨rfl, L', hbl', st2⟩)
  go_ret
  refine ⟨L', by rw [hbl']; rfl, ?_⟩
  rw [HQ.out]
  exact HST.out.trans st2
end Go.Proofs.YtbodkjifpmencaaGreat
