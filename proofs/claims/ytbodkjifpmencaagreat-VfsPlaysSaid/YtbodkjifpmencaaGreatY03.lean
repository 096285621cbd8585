/-
  Of the proof that disks answer every script as the document says: the parts VH VI VJ. No conditions.
-/
import Derived.Test.YtbodkjifpmencaaGreatY02
namespace Go.Proofs.YtbodkjifpmencaaGreat
open Go.RowKit
open Go.Lib

theorem Tryz.infoU8 : (Tryz.prog.info? 5).map (fun i => (i.zero, i.size, i.bytes)) = some (some (.int .u8 0), 1, 1) := by kernel_rfl
theorem sizeSl (w : World) : (Go.sizeOf 28).run Tryz.prog w = .ok 1 w := size_of (by kernel_rfl) w
theorem sizeI (w : World) : (Go.sizeOf 3).run Tryz.prog w = .ok 1 w := size_of (by kernel_rfl) w
theorem own_one {w : World} {base n : Nat} {e : TypeId} {v : Value} {xs : List Value} {size : Nat} (h : w.ownsRow base e size v n xs) : v.oneCell' = true := by
  rcases h.2 with ⟨rfl, _⟩ | ⟨g, cap, cur, rfl, _⟩ <;> rfl
def upB (L : Lay) (k : Nat) (v : Value) : Lay := { L with bv := upd L.bv k v }
theorem entL_upB (L : Lay) (k : Nat) (v : Value) (l : List (Nat × Unit)) : entL (upB L k v) l = entL L l := rfl
theorem foot_setB {L : Lay} {q : Q} {w : World} {k : Nat} (hk : k < q.bodies.length) (v : Value) {x : QB} {l : List (Nat × Unit)} (hl : ∀ b, v.ownBlock = some b → (L.bv k).ownBlock = some b ∨ w.heap.size ≤ b) {b : Nat}
    (h : foot (upB L k v) { q with bodies := q.bodies.set k x, loose := l } b) : foot L q b ∨ w.heap.size ≤ b := by
  rcases h with h | h | h | h | h | ⟨j, hj, h⟩ | h
  · exact .inl (.inl h)
  · exact .inl (.inr (.inl h))
  · exact .inl (.inr (.inr (.inl h)))
  · exact .inl (.inr (.inr (.inr (.inl h))))
  · exact .inl (.inr (.inr (.inr (.inr (.inl h)))))
  · have hj' : j < q.bodies.length := by simpa using hj
    rcases h with h | h
    · exact .inl (.inr (.inr (.inr (.inr (.inr (.inl ⟨j, hj', .inl h⟩))))))
    · by_cases e : j = k
      · subst e
        rw [show (upB L j v).bv j = v from upd_same _ _ _] at h
        rcases hl b h with h2 | h2
        · exact .inl (.inr (.inr (.inr (.inr (.inr (.inl ⟨j, hj', .inr h2⟩))))))
        · exact .inr h2
      · rw [show (upB L k v).bv j = L.bv j from upd_ne _ _ e] at h
        exact .inl (.inr (.inr (.inr (.inr (.inr (.inl ⟨j, hj', .inr h⟩))))))
  · exact .inl (.inr (.inr (.inr (.inr (.inr (.inr h))))))
set_option maxRecDepth 100000 in
theorem extend_nil {L : Lay} {q : Q} {w : World} (H : QD L q w) (k : Nat) (A : Option Addr) (c : Nat) : Calls Tryz.prog 49 #[ptr L.d, ptr (L.bl k), .slice A 0 c] w fun e w' => e = .returned (.tuple #[]) ∧ Step L q w L q w' := by
  have HH := Lib.hid H
  clear H
  unfold ptr
  go_enter Tryz.func49, Tryz.ntmps49
  go_wp2
  first
    | (go_end0; exact ⟨rfl, Step.refl HH.out⟩)
    | (refine bodyPost_ret (results_none rfl _ _ _) rfl ?_; exact ⟨rfl, Step.refl HH.out⟩)
set_option maxRecDepth 100000 in
set_option maxHeartbeats 1000000 in
theorem extend_some {L : Lay} {q : Q} {w : World} (H : QD L q w) {k : Nat} (hk : k < q.bodies.length) (b : Bs) (A : Option Addr) (c : Nat) (hA : RB w A b) (hb : 0 < b.length) (hnl : (qbody q k).now.length + b.length ≤ 1073741824) (hkl : k ≤ 1048576) (hll : q.loose.length ≤ 1048576) :
    Calls Tryz.prog 49 #[ptr L.d, ptr (L.bl k), .slice A b.length c] w fun e w' => e = .returned (.tuple #[]) ∧ ∃ v, Step L q w (upB L k v) (extendQ q k b) w' := by
  obtain ⟨ab, ao, rfl, hal, hac⟩ := hA hb
  have HQ : Hid (extendQ q k b = { q with bodies := q.bodies.set k ⟨(qbody q k).now ++ b, (qbody q k).kept⟩, loose := putN q.loose k () }) := Lib.hid (by unfold extendQ; rw [if_neg (by intro e; rw [e] at hb; simp at hb)])
  obtain ⟨i0, hi, hz0, hz1, hz2⟩ := info_parts Tryz.infoU8
  have hb1 := H.b1 hk
  have hrow : w.ownsRow 0 5 1 (L.bv k) (qbody q k).now.length (cellsB (qbody q k).now) := H.row k hk
  have hcs : ∀ j u, (cellsB b)[j]? = some u → w.cell? ((⟨ab, ao, none⟩ : Addr).add j) = some u := by
    intro j u hj
    have hjl : j < b.length := by have := (List.getElem?_eq_some_iff.1 hj).1; rwa [cellsB_length] at this
    rw [cellsB_at _ j hjl] at hj
    rw [Addr.add_mid, hac j hjl]
    exact hj
  have hbi : ((b.length : Int) == 0) = false := by rw [beq_eq_false_iff_ne]; omega
  have hnr : (L.bv k).ownBlock ≠ some (L.bl k) := fun e => ne_kind (H.kr hk e) (H.kb hk) (by decide) rfl
  have hbod := H.bod k hk
  have HC := Lib.hid hcs
  have HH := Lib.hid H
  have HR := Lib.hid hrow
  have HKL := Lib.hid hll
  obtain ⟨V, hV⟩ : ∃ V, L.bv k = V := ⟨_, rfl⟩
  rw [hV] at hb1 hnr hbod
  have HB := Lib.hid hbod
  have hmrow : V.ownBlock ≠ some L.ml := fun e => ne_kind (H.kr hk (by rw [hV]; exact e)) H.loose.kind (by simp) rfl
  have hmbl : L.bl k ≠ L.ml := ne_kind (H.kb hk) H.loose.kind (by simp)
  have HM1 : Hid (∀ {w1 w2 : World}, w.grownBy w1 V.ownBlock → w1.grownBy w2 (some (L.bl k)) → MapIs Tryz.prog 3 L.ml (entL L q.loose) w2) := Lib.hid (fun g1 g2 => (H.loose.kept g1 (Ne.symm hmrow)).kept g2 (fun e => hmbl (Option.some.inj e).symm))
  clear hmrow hmbl
  have HD := Lib.hid (show L.bl k ≠ L.d from ne_kind (H.kb hk) H.kd (by decide))
  have HDR := Lib.hid (show V.ownBlock ≠ some L.d from fun e => ne_kind (H.kr hk (by rw [hV]; exact e)) H.kd (by decide) rfl)
  have HV := Lib.hid hV
  obtain ⟨nb, hnb⟩ : ∃ n, b.length = n := ⟨_, rfl⟩
  have HNB := Lib.hid hnb
  obtain ⟨nn, hnn⟩ : ∃ n, (qbody q k).now.length = n := ⟨_, rfl⟩
  have HNN := Lib.hid hnn
  rw [hnb] at hb hnl hbi ⊢
  rw [hnn] at hnl
  clear hV hcs hrow hA H hac hll hnb hnn hbod
  unfold ptr
  go_enter Tryz.func49, Tryz.ntmps49
  go_wp2_with (first
    | (at_builtin; refine wpList_append_own_at _ rfl _ _ 28 rfl 0 5 i0 (.int .u8 0) 1 1 Tryz.underlying28 hi hz0 hz1 hz2 rfl (by decide) V nn (cellsB (qbody q k).now) rfl (by rw [← HV.out, ← HNN.out]; exact HR.out) ⟨ab, ao, none⟩ nb c (cellsB b) rfl (by rw [cellsB_length, HNB.out]; simp) HC.out (cellsB_one _) (by unfold maxLen; omega) (by omega) (Nat.zero_le _) ?_; intro v' w1 hown' hg1 _ hloc; have hB1 := HB.out.grown hg1 (Ne.symm hnr); clear hb1)
    | (guard_target =~ Go.wpList _ _ _ ({ dst := none, op := Go.Op.store 28 _ _, .. } :: _) _ _; refine st1 rfl rfl hB1 (by show 1 < 3; decide) (own_one hown') sizeSl ?_; intro w2 hB2 hg2))
  have hd2 : Blk L.d (.cells (dcells L q) TD (0, 0)) w2 := (HH.out.disk.grown hg1 (Ne.symm HDR.out)).grown hg2 (fun e => HD.out (Option.some.inj e).symm)
  have c4 : w2.cell? ⟨L.d, 4, none⟩ = some (.map (some L.ml)) := hd2.cell 4
  have b0 : w2.cell? ⟨L.bl k, 0, none⟩ = some (.int .i64 (k : Int)) := hB2.cell 0
  clear hd2
  go_still_tail 9, (by kernel_rfl)
  have hM2 : MapIs Tryz.prog 3 L.ml (entL L q.loose) w2 := HM1.out hg1 hg2
  change wpList _ _ _ _ _ w2.drew
  obtain ⟨W2, hW2⟩ : ∃ W, w2.drew = W := ⟨_, rfl⟩
  have hM3 : MapIs Tryz.prog 3 L.ml (entL L q.loose) W2 := hW2 ▸ hM2
  have HW2 := Lib.hid hW2
  rw [hW2]
  clear hW2 hM2 c4 b0
  go_wp2_with (at_mapUpdate; refine wpList_store_map _ rfl _ _ _ 56 rfl 3 70 KI Tryz.underlying56 L.ml _ rfl hM3 (by unfold entL maxLen; rw [List.length_map]; have := HKL.out; omega) _ _ _ rfl rfl (key_nat k hkl) ?_; intro w3 hM4 hg3)
  go_end0
  refine ⟨rfl, v', ?_⟩
  have H := HH.out
  have o2 : Off (fun x => x = L.bl k ∨ (L.bv k).ownBlock = some x) w w2 := (Off.of_grown hg1).mono (fun x h => .inr (by rw [HV.out]; exact h)) |>.trans (Off.of_grown hg2) (fun x h => .inl (.inl (Option.some.inj h).symm))
  have r2 : OwnB w2 0 v' ((qbody q k).now ++ b) := by
    have h3 : w1.ownsRow 0 5 1 v' ((qbody q k).now ++ b).length (cellsB ((qbody q k).now ++ b)) := by
      rw [List.length_append, HNN.out, HNB.out, cellsB_append]; exact hown'
    exact own_off h3 (Off.of_grown hg2) (fun x hx e => ne_kind (row_kind h3 hx) hB1.kind (show (some 5 : Option TypeId) ≠ some TB by decide) (Option.some.inj e).symm)
  have H2 := H.setB hk o2 v' ((qbody q k).now ++ b) (qbody q k).kept hB2 r2 (fun x hx => by
    rcases hloc with h | h
    · left; rw [HV.out, ← h]; exact hx
    · right; rw [h] at hx; have := Option.some.inj hx; omega)
  have H2' : QD (upB L k v') { q with bodies := q.bodies.set k ⟨(qbody q k).now ++ b, (qbody q k).kept⟩ } W2 := by rw [← HW2.out]; exact H2.drew
  have H3 := H2'.setL hg3 (putN q.loose k ()) (by rw [← put_entL] at *; exact hM4)
  rw [HQ.out]
  have og : Off (fun x => x = L.bl k ∨ (L.bv k).ownBlock = some x) w W2 := by rw [← HW2.out]; exact o2.drew
  refine ⟨rfl, H3, (og.mono (fun x h => ?_)).trans (Off.of_grown hg3) (fun x h => ?_), fun x h => ?_⟩
  · exact .inr (.inr (.inr (.inr (.inr (.inl ⟨k, hk, h⟩)))))
  · exact .inl (.inr (.inr (.inr (.inr (.inl (Option.some.inj h).symm)))))
  · exact foot_setB hk v' (fun y hy => by
      rcases hloc with e | e
      · left; rw [HV.out, ← e]; exact hy
      · right; rw [e] at hy; have := Option.some.inj hy; omega) h
end Go.Proofs.YtbodkjifpmencaaGreat
namespace Go.Proofs.YtbodkjifpmencaaGreat
open Go.RowKit
open Go.Lib

def addL (L : Lay) (n b : Nat) : Lay := { L with bl := upd L.bl n b, bv := upd L.bv n (.slice none 0 0) }
def addQ (q : Q) : Q := { q with bodies := q.bodies ++ [⟨[], 0⟩] }
theorem qbody_add (q : Q) (j : Nat) (hj : j < q.bodies.length + 1) : qbody (addQ q) j = if j = q.bodies.length then ⟨[], 0⟩ else qbody q j := by
  unfold qbody addQ
  simp only [List.getD]
  by_cases h : j = q.bodies.length
  · subst h; simp
  · rw [List.getElem?_append_left (by omega), if_neg h]
theorem entN_add (L : Lay) (n b : Nat) (l : Nm) (h : ∀ x ∈ l, x.2 < n) : entN (addL L n b) l = entN L l := by
  unfold entN addL
  refine List.map_congr_left (fun x hx => ?_)
  show (Lit.string x.1, ptr (upd L.bl n b x.2)) = _
  rw [upd_ne _ _ (Nat.ne_of_lt (h x hx))]
theorem entL_add (L : Lay) (n b : Nat) (l : List (Nat × Unit)) (h : ∀ x ∈ l, x.1 < n) : entL (addL L n b) l = entL L l := by
  unfold entL addL
  refine List.map_congr_left (fun x hx => ?_)
  show (Lit.int .i64 (x.1 : Int), ptr (upd L.bl n b x.1)) = _
  rw [upd_ne _ _ (Nat.ne_of_lt (h x hx))]
theorem ptrO_add (L : Lay) (n b : Nat) (o : Option Nat) (h : ∀ k, o = some k → k < n) : ptrO (addL L n b) o = ptrO L o := by
  cases o with
  | none => rfl
  | some k => show ptr (upd L.bl n b k) = _; rw [upd_ne _ _ (Nat.ne_of_lt (h k rfl))]; rfl
theorem cellsC_add (L : Lay) (n b : Nat) (cs : List QC) (h : ∀ c ∈ cs, ∀ k, c.body = some k → k < n) : cellsC (addL L n b) cs = cellsC L cs := by
  unfold cellsC
  induction cs with
  | nil => rfl
  | cons c r ih =>
    rw [List.flatMap_cons, List.flatMap_cons, ih (fun d hd => h d (by simp [hd])), ptrO_add _ _ _ _ (h c (by simp))]
/-- A body more. -/
theorem QD.addB {L : Lay} {q : Q} {w w1 w2 : World} (H : QD L q w) {N : Nat} (hS : Small N q) (hb : Blk w.heap.size (.cells (bcells q.bodies.length (.slice none 0 0) 0) TB (0, 0)) w1) (g1 : w.grownBy w1 none) (hd : Blk L.d (.cells (dcells (addL L q.bodies.length w.heap.size) (addQ q)) TD (0, 0)) w2) (g2 : w1.grownBy w2 (some L.d)) :
    QD (addL L q.bodies.length w.heap.size) (addQ q) w2 := by
  have H1 : QD L q w1 := H.off (Off.of_grown g1) (fun _ h => by cases h)
  have hdl : L.d < w.heap.size := H.disk.lt
  have hb2 := hb.grown g2 (fun e => by have := Option.some.inj e; omega)
  have ho : Off (fun b => some L.d = some b) w1 w2 := Off.of_grown g2
  refine ⟨hd, ?_, ?_, ?_, ?_, ?_, ?_, ?_, H.nk, H.nc, H.nl, H.kc, H.kl, H.cl, ?_, ?_⟩
  · rw [show (addQ q).names = q.names from rfl, entN_add _ _ _ _ (fun x hx => (hS.kn x hx).2)]
    exact H1.names.off ho (fun e => ne_kind H1.kd H1.names.kind (by simp) (Option.some.inj e))
  · rw [show (addQ q).kept = q.kept from rfl, entN_add _ _ _ _ (fun x hx => (hS.kk x hx).2)]
    exact H1.kept.off ho (fun e => ne_kind H1.kd H1.kept.kind (by simp) (Option.some.inj e))
  · exact H1.changes.off ho (fun e => ne_kind H1.kd H1.changes.kind (by simp) (Option.some.inj e))
  · rw [show (addQ q).loose = q.loose from rfl, entL_add _ _ _ _ hS.kl]
    exact H1.loose.off ho (fun e => ne_kind H1.kd H1.loose.kind (by simp) (Option.some.inj e))
  · intro k hk
    have hk' : k < q.bodies.length + 1 := by simpa [addQ] using hk
    rw [qbody_add q k hk']
    by_cases e : k = q.bodies.length
    · subst e
      simp only [if_true, addL, upd_same]
      exact hb2
    · simp only [if_neg e, addL, upd_ne _ _ e]
      have hk2 : k < q.bodies.length := by omega
      exact ho.blk (H1.bod k hk2) (fun e => ne_kind H1.kd (H1.kb hk2) (by decide) (Option.some.inj e))
  · intro k hk
    have hk' : k < q.bodies.length + 1 := by simpa [addQ] using hk
    rw [qbody_add q k hk']
    by_cases e : k = q.bodies.length
    · subst e
      simp only [if_true, addL, upd_same]
      exact World.ownsRow_nil _ _ _ _
    · simp only [if_neg e, addL, upd_ne _ _ e]
      have hk2 : k < q.bodies.length := by omega
      exact (H1.row k hk2).off ho (fun b hb e => ne_kind H1.kd (H1.kr hk2 hb) (by decide) (Option.some.inj e))
  · intro x hx
    rw [cellsC_add _ _ _ _ (fun c hc k hk => ((hS.kc x hx).2 c hc).2.2 k hk)]
    exact own_off (H1.chg x hx) ho (fun b hb e => ne_kind H1.kd (H1.kg hx hb) (by decide) (Option.some.inj e))
  · intro i j b hi hj hne h1 h2
    have hi' : i < q.bodies.length + 1 := by simpa [addQ] using hi
    have hj' : j < q.bodies.length + 1 := by simpa [addQ] using hj
    by_cases e : i = q.bodies.length
    · subst e
      simp only [addL, upd_same] at h1
      cases h1
    · by_cases f : j = q.bodies.length
      · subst f
        simp only [addL, upd_same] at h2
        cases h2
      · simp only [addL, upd_ne _ _ e] at h1
        simp only [addL, upd_ne _ _ f] at h2
        exact H.rows i j b (by omega) (by omega) hne h1 h2
  · exact H.chs
theorem foot_add {L : Lay} {q : Q} {w : World} {b : Nat} (h : foot (addL L q.bodies.length w.heap.size) (addQ q) b) : foot L q b ∨ w.heap.size ≤ b := by
  rcases h with h | h | h | h | h | ⟨j, hj, h⟩ | h
  · exact .inl (.inl h)
  · exact .inl (.inr (.inl h))
  · exact .inl (.inr (.inr (.inl h)))
  · exact .inl (.inr (.inr (.inr (.inl h))))
  · exact .inl (.inr (.inr (.inr (.inr (.inl h)))))
  · have hj' : j < q.bodies.length + 1 := by simpa [addQ] using hj
    by_cases e : j = q.bodies.length
    · subst e
      simp only [addL, upd_same] at h
      rcases h with h | h
      · exact .inr (Nat.le_of_eq h.symm)
      · cases h
    · simp only [addL, upd_ne _ _ e] at h
      exact .inl (.inr (.inr (.inr (.inr (.inr (.inl ⟨j, by omega, h⟩))))))
  · exact .inl (.inr (.inr (.inr (.inr (.inr (.inr h))))))
theorem RB.off' {F : Nat → Prop} {w w' : World} {A : Option Addr} {l : Bs} (h : RB w A l) (ho : Off F w w') (hF : 0 < l.length → ∀ b, aBlock A = some b → ¬ F b) : RB w' A l := fun hz => h.off ho (hF hz) hz
set_option maxRecDepth 100000 in
theorem newBody_any {L : Lay} {q : Q} {w : World} (H : QD L q w) {N : Nat} (hS : Small N q) (hN : N ≤ 1048576) (b : Bs) (A : Option Addr) (c : Nat) (hA : RB w A b) (hbl : b.length ≤ 1048576) (hAF : 0 < b.length → ∀ x, aBlock A = some x → ¬ foot L q x) :
    Calls Tryz.prog 46 #[ptr L.d, .slice A b.length c] w fun e w' => ∃ L', e = .returned (ptr (L'.bl q.bodies.length)) ∧ Step L q w L' (newBodyQ q b) w' := by
  obtain ⟨n, hn⟩ : ∃ n, q.bodies.length = n := ⟨_, rfl⟩
  have hnN : n ≤ 1048576 := by have := hS.nb; omega
  obtain ⟨w1, hw1⟩ : ∃ W, w.alloc (.cells #[.int .i64 (n : Int), .slice none 0 0, .int .i64 0] TB) = W := ⟨_, rfl⟩
  have hB : Blk w.heap.size (.cells (bcells n (.slice none 0 0) 0) TB (0, 0)) w1 := by rw [← hw1]; exact Blk.new _ _
  have g1 : w.grownBy w1 none := by rw [← hw1]; exact grown_alloc _ _ _
  have hd1 : Blk L.d (.cells (dcells L q) TD (0, 0)) w1 := H.disk.grown g1 (by simp)
  have c5 : w.cell? ⟨L.d, 5, none⟩ = some (.int .i64 (n : Int)) := by rw [← hn]; exact H.c5
  have c5' : ∀ o, (w.alloc o).cell? ⟨L.d, 5, none⟩ = some (.int .i64 (n : Int)) := fun o => by rw [← hn]; exact (H.disk.grown (grown_alloc w o none) (by simp)).cell 5
  have f5' : ∀ o, (w.alloc o).frozen? ⟨L.d, 5, none⟩ = false := fun o => (H.disk.grown (grown_alloc w o none) (by simp)).free 5
  obtain ⟨w2, hw2⟩ : ∃ W, w1.setCell ⟨L.d, 5, none⟩ (.int .i64 ((n : Int) + 1)) = W := ⟨_, rfl⟩
  have g2 : w1.grownBy w2 (some L.d) := by rw [← hw2]; exact grown_set _ _ _ _
  have hd2 : Blk L.d (.cells (dcells (addL L n w.heap.size) (addQ q)) TD (0, 0)) w2 := by
    have h := hd1.set 5 (.int .i64 ((n : Int) + 1))
    rw [hw2] at h
    have e : (dcells L q).setIfInBounds 5 (.int .i64 ((n : Int) + 1)) = dcells (addL L n w.heap.size) (addQ q) := by
      simp [dcells, addL, addQ, hn]
    rw [e] at h
    exact h
  have H2 : QD (addL L n w.heap.size) (addQ q) w2 := by
    rw [← hn] at hB hd2 ⊢
    exact H.addB hS hB g1 hd2 g2
  have o2 : Off (foot L q) w w2 := ((Off.of_grown g1).mono (fun _ h => by cases h)).trans (Off.of_grown g2) (fun x h => .inl (.inl (Option.some.inj h).symm))
  have hA2 : RB w2 A b := hA.off' o2 hAF
  have st1 : Step L q w (addL L n w.heap.size) (addQ q) w2 := ⟨rfl, H2, o2, fun x hx => foot_add (by rw [hn]; exact hx)⟩
  have hbl2 : (addL L n w.heap.size).bl n = w.heap.size := upd_same _ _ _
  have hlen : n < (addQ q).bodies.length := by simp [addQ, hn]
  have hcall : Calls Tryz.prog 49 #[ptr L.d, ptr w.heap.size, .slice A b.length c] w2 fun e w' => e = .returned (.tuple #[]) ∧ ∃ L', L'.bl n = w.heap.size ∧ Step (addL L n w.heap.size) (addQ q) w2 L' (extendQ (addQ q) n b) w' := by
    by_cases hb0 : b = []
    · subst hb0
      have h := extend_nil H2 n A c
      rw [hbl2] at h
      refine h.mono (fun e w' ⟨h1, h2⟩ => ⟨h1, _, hbl2, ?_⟩)
      have e : extendQ (addQ q) n [] = addQ q := by unfold extendQ; rw [if_pos rfl]
      rw [e]; exact h2
    · have hpos : 0 < b.length := by cases b with | nil => exact absurd rfl hb0 | cons _ _ => simp
      have hq : qbody (addQ q) n = ⟨[], 0⟩ := by rw [← hn, qbody_add q _ (by omega), if_pos rfl]
      have h := extend_some H2 hlen b A c hA2 hpos (by rw [hq]; simp; omega) (by omega) (Nat.le_trans hS.nl hN)
      rw [hbl2] at h
      exact h.mono (fun e w' ⟨h1, v, h2⟩ => ⟨h1, upB (addL L n w.heap.size) n v, hbl2, h2⟩)
  have HQ : Hid (newBodyQ q b = extendQ (addQ q) n b) := Lib.hid (by unfold newBodyQ; rw [hn]; rfl)
  have HCA := Lib.hid hcall
  have HST := Lib.hid st1
  have HW1 := Lib.hid hw1
  have HW2 := Lib.hid hw2
  obtain ⟨nb, hnb⟩ : ∃ m, b.length = m := ⟨_, rfl⟩
  rw [hnb] at HCA ⊢
  clear hcall st1 H2 H hB hd1 hd2 hA hA2 o2 hw1 hw2 g1 g2 hbl2 hlen hS hnb hbl
  rw [hn]
  have HN := Lib.hid hn
  clear hn
  unfold ptr at HCA ⊢
  go_enter Tryz.func46, Tryz.ntmps46
  go_wp2_with (go_at_call 49; rw [HW1.out, HW2.out]; (with_reducible refine HCA.out.mono ?_); rintro e w3 ⟨rfl, L', hbl', st2⟩)
  go_ret
  refine ⟨L', by rw [hbl']; rfl, ?_⟩
  rw [HQ.out]
  exact HST.out.trans st2
end Go.Proofs.YtbodkjifpmencaaGreat
namespace Go.Proofs.YtbodkjifpmencaaGreat
open Go.RowKit
open Go.Lib
open Go.Maps (Keyed)

section
variable {P : Program} (w : World) {o : Oper} {a : Act} {K : Act → World → Prop} {Q : Exit → Act → World → Prop}
theorem wp_append_at (s x : Operand) (t : TypeId)
    (ho : o.op = .call { callee := .builtin .append, args := #[s, x], argTypes := #[t, t] })
    (base : Nat) (e : TypeId) (i : TypeInfo) (z : Value) (size bytes : Nat) (ht : P.underlying t = some (.slice e)) (hi : P.info? e = some i) (hz : i.zero = some z)
    (hsize : i.size = size) (hby : i.bytes = bytes) (hzs : z.cells.size = size) (hsz : 0 < size)
    (v : Value) (n : Nat) (xs : List Value) (hs : a.eval s = v) (hown : w.ownsRow base e size v n xs)
    (ad : Addr) (m c : Nat) (news : List Value) (hx : a.eval x = .slice (some ad) m c) (hl : news.length = m * size) (hnews : ∀ j u, news[j]? = some u → w.cell? (ad.add j) = some u) (h1 : ∀ u ∈ news, u.oneCell' = true)
    (h63 : n + m ≤ maxLen) (hbytes : (n + m) * bytes ≤ 140737488355328) (hbase : base ≤ w.heap.size)
    (h : ∀ v' w', w'.ownsRow base e size v' (n + m) (xs ++ news) → w.grownBy w' v.ownBlock → (v' = .slice none 0 0 ↔ v = .slice none 0 0 ∧ m = 0) → (v'.ownBlock = v.ownBlock ∨ v'.ownBlock = some w.heap.size) → K (a.put o.dst v') w') :
    o.wp P a w K Q := by
  obtain ⟨v', w', hr, h2, h3, h4, h5⟩ := run_append_own_at (P := P) w base t o.type e i z size bytes ht hi hz hsize hby hzs hsz v n xs hown ad m c news hl hnews h1 h63 hbytes hbase
  unfold Oper.wp execOp
  simp only [ho, resolve, invoke, builtin, Sem.run_bind, Sem.run_pure, Result.andThen_ok, List.map_toArray, List.map_cons, List.map_nil, hs, hx, hr]
  exact h v' w' h2 h3 h4 h5
theorem wp_lookup_map (m x : Operand) (t : TypeId) (hop : o.op = Op.lookup t m x false)
    (k e : TypeId) (KK : Keyed P k) (ht : P.underlying t = some (.map k e)) (z : Value) (hz : (zeroValue e).run P w = .ok z w) (b : Nat) (E : Ents) (hm : a.eval m = .map (some b)) (H : MapIs P k b E w)
    (key : Value) (kl : Lit) (hx : a.eval x = key) (hkey : keyOf P k key = some kl) (v : Value) (hv : (lookE E kl).getD z = v) (hK : K (a.put o.dst v) w) : o.wp P a w K Q := by
  have hrun := H.look KK ht hz hkey
  rw [hv] at hrun
  unfold Oper.wp
  simp [execOp, hop, hm, hx, hrun, Result.andThen]
  exact hK
theorem wp_store_map (m x v : Operand) (t : TypeId) (hop : o.op = Op.mapUpdate t m x v)
    (k e : TypeId) (KK : Keyed P k) (ht : P.underlying t = some (.map k e)) (b : Nat) (E : Ents) (hm : a.eval m = .map (some b)) (H : MapIs P k b E w) (hn : E.length < maxLen)
    (key val : Value) (kl : Lit) (hx : a.eval x = key) (hv : a.eval v = val) (hkey : keyOf P k key = some kl)
    (hK : ∀ w', MapIs P k b (putE E kl val) w' → w.grownBy w' (some b) → K (a.put o.dst undef) w') : o.wp P a w K Q := by
  obtain ⟨w', hrun, r1, r2⟩ := H.store KK ht hn hkey (val := val)
  unfold Oper.wp
  simp [execOp, hop, hm, hx, hv, hrun, Result.andThen]
  exact hK w' r1 r2
end
/-- The slice of a directory's changes, as the map has it. -/
def chV (L : Lay) (q : Q) (d : Bs) : Value := (lookE (entC L q.changes) (.string d)).getD (.slice none 0 0)
def chL (q : Q) (d : Bs) : List QC := (look q.changes d).getD []
theorem chV_cases (L : Lay) (q : Q) (d : Bs) : (look q.changes d = none ∧ chV L q d = .slice none 0 0 ∧ chL q d = []) ∨ ∃ cs, look q.changes d = some cs ∧ chV L q d = L.cv d ∧ chL q d = cs := by
  have h : lookE (entC L q.changes) (.string d) = (q.changes.find? fun x => decide (x.1 = d)).map fun x => L.cv x.1 := by
    unfold lookE entC
    rw [List.find?_map]
    have : ((fun p : Lit × Value => p.1.sameKey (.string d)) ∘ fun x : Bs × List QC => (Lit.string x.1, L.cv x.1)) = fun x => decide (x.1 = d) := by
      funext x; exact sk_str _ _
    rw [this]
    cases q.changes.find? (fun x => decide (x.1 = d)) <;> rfl
  unfold chV chL look
  rw [h]
  cases hf : q.changes.find? (fun x => decide (x.1 = d)) with
  | none => exact .inl ⟨rfl, rfl, rfl⟩
  | some x =>
    have := List.find?_some hf
    simp at this
    exact .inr ⟨x.2, rfl, by rw [← this]; rfl, rfl⟩
theorem QD.chRow {L : Lay} {q : Q} {w : World} (H : QD L q w) (d : Bs) : w.ownsRow 0 TC 3 (chV L q d) (chL q d).length (cellsC L (chL q d)) := by
  rcases chV_cases L q d with ⟨_, h1, h2⟩ | ⟨cs, h0, h1, h2⟩
  · rw [h1, h2]; exact World.ownsRow_nil _ _ _ _
  · rw [h1, h2]; exact H.chg (d, cs) (look_mem h0)
theorem QD.chFoot {L : Lay} {q : Q} {d : Bs} {b : Nat} (hb : (chV L q d).ownBlock = some b) : ∃ cs, (d, cs) ∈ q.changes ∧ (L.cv d).ownBlock = some b := by
  rcases chV_cases L q d with ⟨_, h1, h2⟩ | ⟨cs, h0, h1, h2⟩
  · rw [h1] at hb; cases hb
  · exact ⟨cs, look_mem h0, by rw [← h1]; exact hb⟩
def cvL (L : Lay) (d : Bs) (v : Value) : Lay := { L with cv := upd L.cv d v }
theorem put_entC (L : Lay) (c : List (Bs × List QC)) (d : Bs) (v : Value) (cs : List QC) : putE (entC L c) (.string d) v = entC (cvL L d v) (putN c d cs) := by
  have h : dropE (entC L c) (.string d) = entC (cvL L d v) (dropN c d) := by
    unfold dropE dropN entC cvL
    rw [List.filter_map]
    have : List.filter ((fun p : Lit × Value => !p.1.sameKey (.string d)) ∘ fun x : Bs × List QC => (Lit.string x.1, L.cv x.1)) c = List.filter (fun x => decide (x.1 ≠ d)) c := by
      refine List.filter_congr (fun x _ => ?_)
      show (!(Lit.string x.1).sameKey (.string d)) = _
      rw [sk_str]; simp
    rw [this]
    refine List.map_congr_left (fun x hx => ?_)
    have hne : x.1 ≠ d := by have := (List.mem_filter.1 hx).2; simpa using this
    show (Lit.string x.1, L.cv x.1) = (Lit.string x.1, upd L.cv d v x.1)
    rw [upd_ne _ _ hne]
  unfold putE
  rw [h]
  unfold putN entC
  rw [List.map_append]
  simp [cvL, upd]
theorem mem_putN {κ β : Type} [DecidableEq κ] {l : List (κ × β)} {p : κ} {k : β} {x : κ × β} : x ∈ putN l p k ↔ (x ∈ l ∧ x.1 ≠ p) ∨ x = (p, k) := by
  unfold putN dropN
  rw [List.mem_append, List.mem_filter]
  simp
theorem mem_dropN {κ β : Type} [DecidableEq κ] {l : List (κ × β)} {p : κ} {x : κ × β} : x ∈ dropN l p ↔ x ∈ l ∧ x.1 ≠ p := by
  unfold dropN
  rw [List.mem_filter]
  simp
/-- One directory's changes have turned. -/
theorem QD.setC {L : Lay} {q : Q} {w w' : World} (H : QD L q w) (d : Bs) (ho : Off (fun b => b = L.mc ∨ (chV L q d).ownBlock = some b) w w') (v : Value) (cs : List QC)
    (hm : MapIs Tryz.prog 9 L.mc (entC (cvL L d v) (putN q.changes d cs)) w') (hr : w'.ownsRow 0 TC 3 v cs.length (cellsC L cs)) (hl : ∀ b, v.ownBlock = some b → (chV L q d).ownBlock = some b ∨ w.heap.size ≤ b) :
    QD (cvL L d v) { q with changes := putN q.changes d cs } w' := by
  have nb : ∀ {b x}, kindAt w b = some x → x ≠ none → x ≠ some TC → ¬ (b = L.mc ∨ (chV L q d).ownBlock = some b) := fun hx h1 h2 e => by
    rcases e with e | e
    · exact ne_kind hx H.changes.kind h1 e
    · obtain ⟨cs, hc, hb⟩ := QD.chFoot e
      exact ne_kind hx (H.kg hc hb) h2 rfl
  have nm : ∀ {b}, kindAt w b = some none → b ≠ L.mc → ¬ (b = L.mc ∨ (chV L q d).ownBlock = some b) := fun hx h1 e => by
    rcases e with e | e
    · exact h1 e
    · obtain ⟨cs, hc, hb⟩ := QD.chFoot e
      exact ne_kind hx (H.kg hc hb) (by simp) rfl
  refine ⟨?_, H.names.off ho (nm H.names.kind H.nc), H.kept.off ho (nm H.kept.kind H.kc), hm, H.loose.off ho (nm H.loose.kind (Ne.symm H.cl)), ?_, ?_, ?_, H.nk, H.nc, H.nl, H.kc, H.kl, H.cl, H.rows, ?_⟩
  · exact ho.blk H.disk (nb H.kd (by simp) (by decide))
  · exact fun k hk => ho.blk (H.bod k hk) (nb (H.kb hk) (by simp) (by decide))
  · exact fun k hk => (H.row k hk).off ho (fun b hb => nb (H.kr hk hb) (by simp) (by decide))
  · intro x hx
    rcases mem_putN.1 hx with ⟨hx, hne⟩ | rfl
    · show w'.ownsRow 0 TC 3 (upd L.cv d v x.1) _ _
      rw [upd_ne _ _ hne]
      refine own_off (H.chg x hx) ho (fun b hb e => ?_)
      rcases e with e | e
      · exact ne_kind (H.kg hx hb) H.changes.kind (by simp) e
      · obtain ⟨cs, hc, hb2⟩ := QD.chFoot e
        exact H.chs x (d, cs) b hx hc hne hb hb2
    · show w'.ownsRow 0 TC 3 (upd L.cv d v d) _ _
      rw [upd_same]; exact hr
  · intro x y b hx hy hne h1 h2
    change (upd L.cv d v x.1).ownBlock = some b at h1
    change (upd L.cv d v y.1).ownBlock = some b at h2
    rcases mem_putN.1 hx with ⟨hx, hnx⟩ | rfl
    · rw [upd_ne _ _ hnx] at h1
      rcases mem_putN.1 hy with ⟨hy, hny⟩ | rfl
      · rw [upd_ne _ _ hny] at h2
        exact H.chs x y b hx hy hne h1 h2
      · rw [upd_same] at h2
        rcases hl b h2 with h | h
        · obtain ⟨cs, hc, hb2⟩ := QD.chFoot h
          exact H.chs x (d, cs) b hx hc hnx h1 hb2
        · exact absurd ((H.chg x hx).lt b h1).2 (Nat.not_lt.2 h)
    · rw [upd_same] at h1
      rcases mem_putN.1 hy with ⟨hy, hny⟩ | rfl
      · rw [upd_ne _ _ hny] at h2
        rcases hl b h1 with h | h
        · obtain ⟨cs, hc, hb2⟩ := QD.chFoot h
          exact H.chs y (d, cs) b hy hc hny h2 hb2
        · exact absurd ((H.chg y hy).lt b h2).2 (Nat.not_lt.2 h)
      · exact hne rfl
theorem foot_setC {L : Lay} {q : Q} {w : World} (d : Bs) (v : Value) (cs : List QC) {n : Nm} (hl : ∀ b, v.ownBlock = some b → (chV L q d).ownBlock = some b ∨ w.heap.size ≤ b) {b : Nat}
    (h : foot (cvL L d v) { q with names := n, changes := putN q.changes d cs } b) : foot L q b ∨ w.heap.size ≤ b := by
  rcases h with h | h | h | h | h | h | ⟨x, hx, h⟩
  · exact .inl (.inl h)
  · exact .inl (.inr (.inl h))
  · exact .inl (.inr (.inr (.inl h)))
  · exact .inl (.inr (.inr (.inr (.inl h))))
  · exact .inl (.inr (.inr (.inr (.inr (.inl h)))))
  · exact .inl (.inr (.inr (.inr (.inr (.inr (.inl h))))))
  · change (upd L.cv d v x.1).ownBlock = some b at h
    rcases mem_putN.1 hx with ⟨hx, hne⟩ | rfl
    · rw [upd_ne _ _ hne] at h
      exact .inl (.inr (.inr (.inr (.inr (.inr (.inr ⟨x, hx, h⟩))))))
    · rw [upd_same] at h
      rcases hl b h with h2 | h2
      · obtain ⟨cs2, hc, hb2⟩ := QD.chFoot h2
        exact .inl (.inr (.inr (.inr (.inr (.inr (.inr ⟨(d, cs2), hc, hb2⟩))))))
      · exact .inr h2
end Go.Proofs.YtbodkjifpmencaaGreat
