/-
  Of the proof that disks answer every script as the document says: the parts VgT VgU VgV VgW VgX VgY. No conditions.
-/
import Derived.Test.YtbodkjifpmencaaGreatY15
namespace Go.Proofs.YtbodkjifpmencaaGreat

theorem Once.same {q q' : Q} (O : Once q) (h2 : q'.kept = q.kept) (h3 : q'.changes = q.changes) : Once q' := by
  have hc : ∀ d, chL q' d = chL q d := fun d => by unfold chL; rw [h3]
  refine ⟨fun d i hi k hk => ?_, by rw [h3]; exact O.ne, fun d => by rw [hc]; exact O.rem d⟩
  simp only [hc, h2] at hi hk ⊢
  exact O.fresh d i hi k hk
theorem Once.new (room : Int) : Once (qNew room) := ⟨(fun d i hi => absurd (show i < 0 from hi) (Nat.not_lt_zero _)), (fun x hx => by cases hx), (fun d c hc => by cases hc)⟩
theorem Once.begin {q : Q} (O : Once q) (r : Bool) : Once (beginQ q r).2 := by
  obtain ⟨_, h2, h3, _, _⟩ := begin_same5 q r
  exact O.same h2 h3
theorem Once.change {h : Nat → Bs} {q : Q} (O : Once q) (H : Home h q) (frm tgt : Bs) (o : Option Nat) (hrem : o = none → frm = tgt) (ho : ∀ k, o = some k → ((frm, k) ∈ q.names ∧ frm ≠ tgt) ∨ ∀ d j, k ∉ vals (appAll ((chL q d).take j) (inD d q.kept))) : Once (changeQ q frm tgt o) := by
  refine ⟨fun d i hi k hk => ?_, fun x hx => ?_, fun d c hc => ?_⟩
  · have hkept : (changeQ q frm tgt o).kept = q.kept := rfl
    simp only [chL_change, hkept] at hi hk ⊢
    by_cases hil : i < (chL q d).length
    · rw [List.getElem_append_left hil] at hk ⊢
      have htk : ∀ j, j ≤ i → (chL q d ++ if dirL frm = d then [(⟨frm, tgt, o⟩ : QC)] else []).take j = (chL q d).take j := fun j hj => List.take_append_of_le_length (by omega)
      rw [htk i (Nat.le_refl _)]
      rcases O.fresh d i hil k hk with h1 | h1
      · exact .inl h1
      · exact .inr (fun j hj => by rw [htk j hj]; exact h1 j hj)
    · have hd : dirL frm = d := by
        by_cases hd : dirL frm = d
        · exact hd
        · rw [if_neg hd, List.append_nil] at hi; omega
      simp only [if_pos hd] at hi hk ⊢
      have hie : i = (chL q d).length := by simp at hi; omega
      subst hie
      have hget : (chL q d ++ [(⟨frm, tgt, o⟩ : QC)])[(chL q d).length]'(by simp) = ⟨frm, tgt, o⟩ := by simp
      rw [hget] at hk ⊢
      have htk : ∀ j, j ≤ (chL q d).length → (chL q d ++ [(⟨frm, tgt, o⟩ : QC)]).take j = (chL q d).take j := fun j hj => List.take_append_of_le_length hj
      rw [htk _ (Nat.le_refl _), List.take_length, ← H.names d]
      rcases ho k hk with ⟨h1, h2⟩ | h1
      · exact .inl ⟨List.mem_filter.2 ⟨h1, by simpa using hd⟩, h2⟩
      · exact .inr (fun j hj => by rw [htk j hj]; exact h1 d j)
  · rcases mem_put hx with hx | rfl
    · exact O.ne x hx
    · simp
  · rw [chL_change] at hc
    rcases List.mem_append.1 hc with hc | hc
    · exact O.rem d c hc
    · by_cases hd : dirL frm = d
      · rw [if_pos hd] at hc
        simp at hc
        subst hc
        exact hrem
      · rw [if_neg hd] at hc
        cases hc
/-- All that states name are bodies of the disk's. -/
theorem state_lt {N : Nat} {q : Q} (S : Small N q) (d : Bs) (j : Nat) {k : Nat} (hk : k ∈ vals (appAll ((chL q d).take j) (inD d q.kept))) : k < q.bodies.length := by
  obtain ⟨p, hp⟩ := mem_vals.1 hk
  rcases mem_appAll hp with hp | ⟨c, hc, _, h2⟩
  · exact (S.kk _ (List.mem_filter.1 hp).1).2
  · have hc := List.mem_of_mem_take hc
    unfold chL at hc
    cases hl : look q.changes d with
    | none => rw [hl] at hc; cases hc
    | some cs => rw [hl] at hc; exact ((S.kc _ (look_mem hl)).2 c hc).2.2 k h2
theorem Once.extend {q : Q} (O : Once q) (k : Nat) (b : Bs) : Once (extendQ q k b) := O.same (extend_same q k b).2.1 (extend_same q k b).2.2
theorem Home.extend {h : Nat → Bs} {q : Q} (H : Home h q) (k : Nat) (b : Bs) : Home h (extendQ q k b) := H.same (extend_same q k b).1 (extend_same q k b).2.1 (extend_same q k b).2.2
theorem Once.write {h : Nat → Bs} {N : Nat} {q : Q} (O : Once q) (H : Home h q) (S : Small N q) (p b : Bs) : Once (writeQ q p b).2 := by
  have O1 := O.begin (rightL p)
  have H1 := H.begin (rightL p)
  have S1 := S.begin (rightL p)
  unfold writeQ
  rcases hb : beginQ q (rightL p) with ⟨e, q1⟩
  rw [hb] at O1 H1 S1
  dsimp only at *
  split
  · split
    · have O2 : Once (newBodyQ q1 b) := Once.extend (q := { q1 with bodies := q1.bodies ++ [⟨[], 0⟩] }) (O1.same rfl rfl) _ _
      have H2 : Home h (newBodyQ q1 b) := Home.extend (q := { q1 with bodies := q1.bodies ++ [⟨[], 0⟩] }) (H1.same rfl rfl rfl) _ _
      have hk : (newBodyQ q1 b).kept = q1.kept := (extend_same { q1 with bodies := q1.bodies ++ [⟨[], 0⟩] } q1.bodies.length b).2.1
      have hc : ∀ d, chL (newBodyQ q1 b) d = chL q1 d := fun d => by
        unfold chL
        rw [show (newBodyQ q1 b).changes = q1.changes from (extend_same { q1 with bodies := q1.bodies ++ [⟨[], 0⟩] } q1.bodies.length b).2.2]
      exact O2.change H2 p p (some q1.bodies.length) (fun h => by cases h) (fun k hk' => .inr (fun d j hm => by
        cases hk'
        rw [hc, hk] at hm
        have := state_lt S1 d j hm
        omega))
    · exact O1
  · exact O1
theorem Once.append {q : Q} (O : Once q) (p b : Bs) : Once (appendQ q p b).2 := by
  have O1 := O.begin (rightL p)
  unfold appendQ
  rcases hb : beginQ q (rightL p) with ⟨e, q1⟩
  rw [hb] at O1
  dsimp only at *
  split
  · split
    · exact O1
    · split
      · exact O1.extend _ _
      · exact O1
  · exact O1
theorem Once.rename {h : Nat → Bs} {q : Q} (O : Once q) (H : Home h q) (p t : Bs) : Once (renameQ q p t).2 := by
  have O1 := O.begin (rightL p && rightL t && dirL p == dirL t)
  have H1 := H.begin (rightL p && rightL t && dirL p == dirL t)
  unfold renameQ
  rcases hb : beginQ q (rightL p && rightL t && dirL p == dirL t) with ⟨e, q1⟩
  rw [hb] at O1 H1
  dsimp only at *
  split
  · split
    · exact O1
    · rename_i k hk
      dsimp only
      split
      · exact O1
      · rename_i hpt
        exact O1.change H1 p t (some k) (fun h => by cases h) (fun k' hk' => by cases hk'; exact .inl ⟨look_mem hk, hpt⟩)
  · exact O1
theorem Once.remove {h : Nat → Bs} {q : Q} (O : Once q) (H : Home h q) (p : Bs) : Once (removeQ q p).2 := by
  have O1 := O.begin (rightL p)
  have H1 := H.begin (rightL p)
  unfold removeQ
  rcases hb : beginQ q (rightL p) with ⟨e, q1⟩
  rw [hb] at O1 H1
  dsimp only at *
  split
  · split
    · exact O1
    · exact O1.change H1 p p none (fun _ => rfl) (fun k hk => by cases hk)
  · exact O1
theorem Once.sync {q : Q} (O : Once q) (p : Bs) : Once (syncQ q p).2 := by
  have O1 := O.begin (rightL p)
  unfold syncQ
  rcases hb : beginQ q (rightL p) with ⟨e, q1⟩
  rw [hb] at O1
  dsimp only at *
  split
  · split
    · exact O1
    · exact O1.same rfl rfl
  · exact O1
theorem Once.syncDir {h : Nat → Bs} {q : Q} (O : Once q) (H : Home h q) (d : Bs) : Once (syncDirQ q d).2 := by
  have O1 := O.begin (d == [] || isPartL d)
  have H1 := H.begin (d == [] || isPartL d)
  unfold syncDirQ
  rcases hb : beginQ q (d == [] || isPartL d) with ⟨e, q1⟩
  rw [hb] at O1 H1
  dsimp only at *
  split
  · obtain ⟨_, s2, _⟩ := keepQ_same q1 (chL q1 d)
    have hkept := keepQ_kept q1 (chL q1 d)
    have hcs := H1.chL d
    change Once { keepQ q1 (chL q1 d) with changes := dropN (keepQ q1 (chL q1 d)).changes d }
    have hc : ∀ e, chL { keepQ q1 (chL q1 d) with changes := dropN (keepQ q1 (chL q1 d)).changes d } e = if e = d then [] else chL q1 e := fun e => by
      show (look (dropN (keepQ q1 (chL q1 d)).changes d) e).getD [] = _
      by_cases he : e = d
      · subst he; rw [if_pos rfl, look_drop_same]; rfl
      · rw [if_neg he, look_drop_far he, s2]; rfl
    have hk : ∀ e, e ≠ d → inD e (keepQ q1 (chL q1 d)).kept = inD e q1.kept := fun e he => by
      rw [hkept]
      exact inD_allfar e d (Ne.symm he) _ (fun c hc => ⟨(hcs c hc).1, (hcs c hc).2.1⟩) _
    refine ⟨fun e i hi k hk' => ?_, fun x hx => ?_, fun e c hc' => ?_⟩
    · by_cases he : e = d
      · simp only [hc, if_pos he] at hi
        cases hi
      · simp only [hc, if_neg he] at hi hk' ⊢
        have := O1.fresh e i hi k hk'
        show _ ∈ appAll _ (inD e (keepQ q1 (chL q1 d)).kept) ∧ _ ∨ ∀ j, j ≤ i → k ∉ vals (appAll _ (inD e (keepQ q1 (chL q1 d)).kept))
        rw [hk e he]
        exact this
    · have hx' : x ∈ dropN (keepQ q1 (chL q1 d)).changes d := hx
      rw [s2] at hx'
      exact O1.ne x (mem_drop hx')
    · rw [hc] at hc'
      by_cases he : e = d
      · rw [if_pos he] at hc'; cases hc'
      · rw [if_neg he] at hc'; exact O1.rem e c hc'
  · exact O1
theorem Once.crash (q : Q) (ks : List Int) : Once (crashQ q ks) := ⟨(fun d i hi => absurd (show i < 0 from hi) (Nat.not_lt_zero _)), (fun x hx => by cases hx), (fun d c hc => by cases hc)⟩
end Go.Proofs.YtbodkjifpmencaaGreat
namespace Go.Proofs.YtbodkjifpmencaaGreat

theorem next_tail (ks : List Int) (m : Nat) : (nextQ ks m).2 = ks.tail := by cases ks <;> rfl
def stay1R (s : R × List Int) (k : Nat) : R × List Int :=
  if (rbody s.1 k).now = (rbody s.1 k).kept then s else
    ({ s.1 with bodies := s.1.bodies.set k ⟨(rbody s.1 k).now.take ((rbody s.1 k).kept.length + (nextQ s.2 ((rbody s.1 k).now.length - (rbody s.1 k).kept.length)).1), (rbody s.1 k).now.take ((rbody s.1 k).kept.length + (nextQ s.2 ((rbody s.1 k).now.length - (rbody s.1 k).kept.length)).1)⟩ }, (nextQ s.2 ((rbody s.1 k).now.length - (rbody s.1 k).kept.length)).2)
def stayAllR (r : R) (ks : List Int) (i : Nat) : R × List Int := (List.range i).foldl stay1R (r, ks)
def stepQ (L : List Nat) (s : Q × List Int) (k : Nat) : Q × List Int := if k ∈ L then stay1Q s k else s
theorem looseS_range {N : Nat} {q : Q} (H : Small N q) : looseS q = (List.range q.bodies.length).filter fun k => decide (k ∈ q.loose.map (·.1)) := by
  have tr : ∀ a b c : Nat, decide (a ≤ b) = true → decide (b ≤ c) = true → decide (a ≤ c) = true := fun a b c h1 h2 => by simp only [decide_eq_true_eq] at *; omega
  have tt : ∀ a b : Nat, (decide (a ≤ b) || decide (b ≤ a)) = true := fun a b => by simp only [Bool.or_eq_true, decide_eq_true_eq]; omega
  refine List.Perm.eq_of_pairwise (le := fun a b => decide (a ≤ b) = true) (fun a b _ _ h1 h2 => ?_) (List.pairwise_mergeSort tr tt _) ?_ ?_
  · simp only [decide_eq_true_eq] at h1 h2; omega
  · refine List.Pairwise.filter _ ((List.pairwise_lt_range (n := q.bodies.length)).imp (fun h => ?_))
    simp only [decide_eq_true_eq]; omega
  · refine (List.mergeSort_perm _ _).trans ((List.perm_ext_iff_of_nodup H.dl ((List.nodup_range).filter _)).2 (fun k => ?_))
    rw [List.mem_filter, List.mem_range]
    simp only [decide_eq_true_eq]
    refine ⟨fun h => ⟨?_, h⟩, fun h => h.2⟩
    obtain ⟨x, hx, rfl⟩ := List.mem_map.1 h
    exact H.kl x hx
theorem crashA_range {N : Nat} {q : Q} (H : Small N q) (ks : List Int) : crashA q ks = (List.range q.bodies.length).foldl (stepQ (q.loose.map (·.1))) (q, ks) := by
  have h : crashA q ks = (looseS q).foldl stay1Q (q, ks) := rfl
  rw [h, looseS_range H, List.foldl_filter]
  congr 1
  funext s k
  unfold stepQ
  by_cases hk : k ∈ q.loose.map (·.1)
  · rw [if_pos hk, if_pos (decide_eq_true hk)]
  · rw [if_neg hk, if_neg (fun h => hk (of_decide_eq_true h))]
structure SimA (q : Q) (r : R) (i : Nat) (s : Q × List Int) (t : R × List Int) : Prop where
  ks : s.2 = t.2
  qs : s.1 = { q with bodies := s.1.bodies }
  rs : t.1 = { r with bodies := t.1.bodies }
  ql : s.1.bodies.length = q.bodies.length
  rl : t.1.bodies.length = r.bodies.length
  qb : ∀ k, i ≤ k → qbody s.1 k = qbody q k
  rb : ∀ k, i ≤ k → rbody t.1 k = rbody r k
  done : ∀ k, k < i → (rbody t.1 k).kept = (rbody t.1 k).now
  alive : ∀ k, k < i → Alive q k → (rbody t.1 k).now = (qbody s.1 k).now ∧ (qbody s.1 k).kept = (qbody s.1 k).now.length
theorem SimA.step {N : Nat} {q : Q} {r : R} (S : Sim q r) (H : Small N q) {i : Nat} (hi : i < q.bodies.length) {s : Q × List Int} {t : R × List Int} (I : SimA q r i s t) : SimA q r (i + 1) (stepQ (q.loose.map (·.1)) s i) (stay1R t i) := by
  have hr : rbody t.1 i = rbody r i := I.rb i (Nat.le_refl _)
  have hq : qbody s.1 i = qbody q i := I.qb i (Nat.le_refl _)
  have hil : i < t.1.bodies.length := by rw [I.rl, S.len]; exact hi
  have hiq : i < s.1.bodies.length := by rw [I.ql]; exact hi
  have hmem : i ∈ q.loose.map (·.1) ↔ ∃ x ∈ q.loose, x.1 = i := by
    rw [List.mem_map]
  have hkl := H.kle i
  by_cases hl : (rbody r i).now = (rbody r i).kept
  · have hn : ¬ i ∈ q.loose.map (·.1) := fun h => (S.loose i hi).1 (hmem.1 h) hl
    unfold stepQ stay1R
    rw [if_neg hn, if_pos (by rw [hr]; exact hl)]
    refine ⟨I.ks, I.qs, I.rs, I.ql, I.rl, fun k hk => I.qb k (by omega), fun k hk => I.rb k (by omega), fun k hk => ?_, fun k hk ha => ?_⟩
    · by_cases hki : k = i
      · subst hki; rw [hr]; exact hl.symm
      · exact I.done k (by omega)
    · by_cases hki : k = i
      · subst hki
        have hb := S.body k ha
        rw [hr, hq, hb]
        rw [hb] at hl
        dsimp only at hl ⊢
        refine ⟨rfl, ?_⟩
        have := congrArg List.length hl
        rw [List.length_take] at this
        omega
      · exact I.alive k (by omega) ha
  · have hn : i ∈ q.loose.map (·.1) := hmem.2 ((S.loose i hi).2 hl)
    unfold stepQ stay1R
    rw [if_pos hn, if_neg (by rw [hr]; exact hl), hr]
    obtain ⟨y, hy⟩ : ∃ y, (rbody r i).now.take ((rbody r i).kept.length + (nextQ t.2 ((rbody r i).now.length - (rbody r i).kept.length)).1) = y := ⟨_, rfl⟩
    rw [hy]
    refine ⟨?_, ?_, ?_, ?_, ?_, fun k hk => ?_, fun k hk => ?_, fun k hk => ?_, fun k hk ha => ?_⟩
    · show (nextQ s.2 _).2 = (nextQ t.2 _).2
      rw [next_tail, next_tail, I.ks]
    · exact congrArg (fun z : Q => { z with bodies := (stay1Q s i).1.bodies }) I.qs
    · exact congrArg (fun z : R => { z with bodies := t.1.bodies.set i ⟨y, y⟩ }) I.rs
    · show (s.1.bodies.set _ _).length = _
      rw [List.length_set]; exact I.ql
    · show (t.1.bodies.set _ _).length = _
      rw [List.length_set]; exact I.rl
    · exact (qbody_set_far (q := s.1) (j := i) rfl (by omega)).trans (I.qb k (by omega))
    · exact (rbody_far (r := t.1) (k := i) (by omega)).trans (I.rb k (by omega))
    · by_cases hki : k = i
      · subst hki
        rw [rbody_at hil]
      · rw [rbody_far hki]
        exact I.done k (by omega)
    · by_cases hki : k = i
      · subst hki
        rw [rbody_at hil, qbody_at hiq _ rfl]
        dsimp only
        have hb := S.body k ha
        have hlen : (List.take (qbody q k).kept (qbody q k).now).length = (qbody q k).kept := by rw [List.length_take]; omega
        have h1 := next_le s.2 ((qbody q k).now.length - (qbody q k).kept)
        rw [← hy, hb, hq]
        dsimp only
        rw [hlen, I.ks]
        refine ⟨rfl, ?_⟩
        rw [List.length_take]
        rw [I.ks] at h1
        omega
      · rw [rbody_far hki, qbody_set_far (q := s.1) (j := i) rfl hki]
        exact I.alive k (by omega) ha
theorem simA {N : Nat} {q : Q} {r : R} (S : Sim q r) (H : Small N q) (ks : List Int) : ∀ i, i ≤ q.bodies.length → SimA q r i ((List.range i).foldl (stepQ (q.loose.map (·.1))) (q, ks)) (stayAllR r ks i)
  | 0, _ => ⟨rfl, rfl, rfl, rfl, rfl, fun _ _ => rfl, fun _ _ => rfl, (fun k hk => by omega), (fun k hk => by omega)⟩
  | i + 1, hi => by
    have I := simA S H ks i (by omega)
    unfold stayAllR
    rw [List.range_succ, List.foldl_append, List.foldl_append]
    exact I.step S H (by omega)
end Go.Proofs.YtbodkjifpmencaaGreat
namespace Go.Proofs.YtbodkjifpmencaaGreat

def ndR (r : R) (d : Bs) : Nat := (r.changes.filter fun c => decide (c.1 = d)).length
def keepDir1R (s : R × List Int) (d : Bs) : R × List Int :=
  ({ s.1 with kept := (keepGo d s.1.changes (nextQ s.2 (ndR s.1 d)).1 s.1.kept).1, changes := s.1.changes.filter fun c => !decide (c.1 = d) }, (nextQ s.2 (ndR s.1 d)).2)
theorem keepGo_ne (d : Bs) : ∀ (cs : List RCh) (n : Nat) (l : Nm), (keepGo d cs n l).2.filter (fun c => !decide (c.1 = d)) = cs.filter fun c => !decide (c.1 = d)
  | [], n, l => by simp [keepGo]
  | c :: cs, n, l => by
    unfold keepGo
    split
    · dsimp only
      rw [List.filter_cons, List.filter_cons, keepGo_ne d cs n l]
    · rename_i h
      have hc : c.1 = d := Classical.byContradiction fun h' => h (.inl h')
      rw [keepGo_ne d cs, List.filter_cons_of_neg (by simp [hc])]
/-- Of a state whose directory is still the old one. -/
theorem not_gone_of {h : Nat → Bs} {q : Q} (H : Home h q) (O : Once q) (d : Bs) (t : Q) (ht : inD d t.kept = inD d q.kept) (n : Nat) (hn : n ≤ (chL q d).length) (k : Nat) (hk : h k ≠ d ∨ k ∈ vals (appAll ((chL q d).take n) (inD d q.kept))) : qbody (keepQ t ((chL q d).take n)) k = qbody t k := by
  have hcs := H.chL d
  have hl : ((chL q d).take n).length = n := by rw [List.length_take]; omega
  have := keepQ_body (q := t) (k := k) ((chL q d).take n) (fun i hi e => ?_) n (by omega)
  · rw [List.take_take, Nat.min_self] at this
    exact this
  · have hin : i < n := by omega
    have hic : i < (chL q d).length := by omega
    rw [List.take_take, Nat.min_eq_left (by omega)] at e
    have hget : ((chL q d).take n)[i] = (chL q d)[i] := by rw [List.getElem_take]
    rw [hget] at e
    have hdir := (hcs _ (List.getElem_mem hic)).2.1
    have e2 : look (appAll ((chL q d).take i) (inD d q.kept)) (chL q d)[i].to = some k := by
      rw [← ht, ← inD_all d _ (fun c hc => by have := hcs c (List.mem_of_mem_take hc); exact ⟨this.1, this.2.1⟩), find_inD _ _ _ hdir]
      exact e
    rcases hk with hk | hk
    · have hm := look_mem e2
      have hh : dirL (chL q d)[i].to = h k := by
        rcases mem_appAll hm with hm | ⟨c, hc, h1, h2⟩
        · exact H.kept _ (List.mem_filter.1 hm).1
        · have := hcs c (List.mem_of_mem_take hc)
          rw [hdir]
          exact (this.2.2 _ h2).symm
      exact hk (by rw [← hh, hdir])
    · exact gone_for_good H O d i hic k e2 n hin hn hk
structure SimB (h : Nat → Bs) (q : Q) (r : R) (l : List Bs) (k : Nat) (s : Q × List Int) (t : R × List Int) : Prop where
  ks : s.2 = t.2
  rs : t.1 = { r with kept := t.1.kept, changes := t.1.changes }
  kept : t.1.kept = s.1.kept
  chg : t.1.changes = r.changes.filter fun c => !decide (c.1 ∈ l.take k)
  body : ∀ j, (h j ∉ l.take k ∨ j ∈ vals (inD (h j) s.1.kept)) → qbody s.1 j = qbody q j
def dirAllR (s : R × List Int) (l : List Bs) (k : Nat) : R × List Int := (l.take k).foldl keepDir1R s
theorem dirAllR_succ (s : R × List Int) (l : List Bs) (k : Nat) (h : k < l.length) : dirAllR s l (k + 1) = keepDir1R (dirAllR s l k) l[k] := foldl_take _ _ _ _ h
theorem simB {h : Nat → Bs} {q : Q} {r : R} (H : Home h q) (O : Once q) (hk : r.kept = q.kept) (hc : ∀ d, ((r.changes.filter fun c => decide (c.1 = d)).map (·.2)) = (chL q d).map trC) (ks : List Int) (l : List Bs) (hl : l.Nodup) : ∀ k, k ≤ l.length → SimB h q r l k (dirAll (q, ks) l k) (dirAllR (r, ks) l k) := by
  intro k
  induction k with
  | zero => intro _; exact ⟨rfl, rfl, hk, (List.filter_eq_self.2 (by simp)).symm, fun _ _ => rfl⟩
  | succ k ih =>
    intro hkl
    have I := ih (by omega)
    have C := crash_inv H ks l hl k (by omega)
    have C1 := crash_inv H ks l hl (k + 1) hkl
    rw [dirAll_succ _ _ _ (by omega)] at C1 ⊢
    rw [dirAllR_succ _ _ _ (by omega)]
    obtain ⟨s, hs⟩ : ∃ s, dirAll (q, ks) l k = s := ⟨_, rfl⟩
    obtain ⟨t, ht⟩ : ∃ t, dirAllR (r, ks) l k = t := ⟨_, rfl⟩
    rw [hs] at I C C1 ⊢
    rw [ht] at I ⊢
    obtain ⟨d0, hd0⟩ : ∃ d, l[k] = d := ⟨_, rfl⟩
    rw [hd0] at C1 ⊢
    have hnot : d0 ∉ l.take k := by
      intro hmem
      have h2 := hl
      rw [← List.take_append_drop k l, List.nodup_append] at h2
      exact h2.2.2 d0 hmem l[k] (by rw [List.drop_eq_getElem_cons (by omega)]; exact List.mem_cons_self ..) hd0.symm
    have htk : l.take (k + 1) = l.take k ++ [d0] := by rw [List.take_succ_eq_append_getElem (by omega), hd0]
    have hcs : (look s.1.changes d0).getD [] = chL q d0 := by rw [C.changes]; rfl
    have hfil : t.1.changes.filter (fun c => decide (c.1 = d0)) = r.changes.filter fun c => decide (c.1 = d0) := by
      rw [I.chg, List.filter_filter]
      refine List.filter_congr (fun c _ => ?_)
      by_cases hcd : c.1 = d0
      · simp [hcd, hnot]
      · simp [hcd]
    have hnd : ndR t.1 d0 = (chL q d0).length := by
      unfold ndR
      rw [hfil]
      have := congrArg List.length (hc d0)
      rw [List.length_map, List.length_map] at this
      exact this
    obtain ⟨m, hm⟩ : ∃ m, (nextQ s.2 (chL q d0).length).1 = m := ⟨_, rfl⟩
    have hml : m ≤ (chL q d0).length := by rw [← hm]; exact next_le _ _
    have hq : keepDir1Q s d0 = (keepQ s.1 ((chL q d0).take m), (nextQ s.2 (chL q d0).length).2) := by
      show (keepQ s.1 (((look s.1.changes d0).getD []).take (nextQ s.2 ((look s.1.changes d0).getD []).length).1), (nextQ s.2 ((look s.1.changes d0).getD []).length).2) = _
      rw [hcs, hm]
    have hr : keepDir1R t d0 = ({ t.1 with kept := (keepGo d0 t.1.changes m t.1.kept).1, changes := t.1.changes.filter fun c => !decide (c.1 = d0) }, (nextQ s.2 (chL q d0).length).2) := by
      unfold keepDir1R
      rw [hnd, ← I.ks, hm]
    have hch := H.chL d0
    have hct : ∀ c ∈ (chL q d0).take m, dirL c.frm = d0 ∧ dirL c.to = d0 := fun c hc => ⟨(hch c (List.mem_of_mem_take hc)).1, (hch c (List.mem_of_mem_take hc)).2.1⟩
    have hd : inD d0 s.1.kept = inD d0 q.kept := by
      obtain ⟨n, _, hp, hz⟩ := C.part d0
      rw [hp, hz hnot]
      rfl
    have hkq : (keepQ s.1 ((chL q d0).take m)).kept = appAll ((chL q d0).take m) s.1.kept := keepQ_kept _ _
    rw [hq, hr]
    refine ⟨rfl, ?_, ?_, ?_, fun j hj => ?_⟩
    · exact congrArg (fun z : R => { z with kept := (keepGo d0 t.1.changes m t.1.kept).1, changes := t.1.changes.filter fun c => !decide (c.1 = d0) }) I.rs
    · show (keepGo d0 t.1.changes m t.1.kept).1 = (keepQ s.1 ((chL q d0).take m)).kept
      rw [keepGo_fst, hkq, appAll_tr, hfil, hc d0, I.kept, List.map_take]
    · show (t.1.changes.filter fun c => !decide (c.1 = d0)) = _
      rw [I.chg, List.filter_filter, htk]
      refine List.filter_congr (fun c _ => ?_)
      simp [List.mem_append, Bool.and_comm]
    · change h j ∉ l.take (k + 1) ∨ j ∈ vals (inD (h j) (keepQ s.1 ((chL q d0).take m)).kept) at hj
      show qbody (keepQ s.1 ((chL q d0).take m)) j = qbody q j
      rw [htk, hkq] at hj
      by_cases he : h j = d0
      · rw [he] at hj
        rcases hj with hj | hj
        · exact absurd (List.mem_append_right _ (List.mem_singleton.2 rfl)) hj
        · rw [inD_all d0 _ hct, hd] at hj
          rw [not_gone_of H O d0 s.1 hd m hml j (.inr hj)]
          exact I.body j (.inl (by rw [he]; exact hnot))
      · rw [not_gone_of H O d0 s.1 hd m hml j (.inl he)]
        refine I.body j ?_
        rcases hj with hj | hj
        · exact .inl (fun hmem => hj (List.mem_append_left _ hmem))
        · right
          rw [inD_allfar (h j) d0 (Ne.symm he) _ hct] at hj
          exact hj
/-! ### The whole crash -/
def crashR (r : R) (ks : List Int) (l : List Bs) : R :=
  { (dirAllR (stayAllR r ks r.bodies.length) l l.length).1 with names := (dirAllR (stayAllR r ks r.bodies.length) l l.length).1.kept, fails := false }
theorem dirAll_same (s : Q × List Int) (l : List Bs) : ∀ k, k ≤ l.length → (dirAll s l k).1.room = s.1.room ∧ (dirAll s l k).1.loose = s.1.loose ∧ (dirAll s l k).1.bodies.length = s.1.bodies.length := by
  intro k
  induction k with
  | zero => intro _; exact ⟨rfl, rfl, rfl⟩
  | succ k ih =>
    intro hk
    obtain ⟨h1, h2, h3⟩ := ih (by omega)
    rw [dirAll_succ _ _ _ (by omega)]
    obtain ⟨x, hx⟩ : ∃ x, (look (dirAll s l k).1.changes l[k]).getD [] = x := ⟨_, rfl⟩
    have hq : (keepDir1Q (dirAll s l k) l[k]).1 = keepQ (dirAll s l k).1 (x.take (nextQ (dirAll s l k).2 x.length).1) := by
      rw [← hx]; rfl
    rw [hq]
    obtain ⟨_, _, s3, s4, _⟩ := keepQ_same (dirAll s l k).1 (x.take (nextQ (dirAll s l k).2 x.length).1)
    exact ⟨s4.trans h1, s3.trans h2, (keepQ_length _ _).trans h3⟩
theorem rbody_get (r : R) {b : RB2} (hb : b ∈ r.bodies) : ∃ k, k < r.bodies.length ∧ rbody r k = b := by
  obtain ⟨k, hk, e⟩ := List.getElem_of_mem hb
  refine ⟨k, hk, ?_⟩
  unfold rbody
  rw [List.getD_eq_getElem?_getD, List.getElem?_eq_getElem hk, e]
  rfl
theorem Sim.crash {h : Nat → Bs} {N : Nat} {q : Q} {r : R} (S : Sim q r) (H : Home h q) (O : Once q) (hS : Small N q) (ks : List Int) : Sim (crashQ q ks) (crashR r ks (dirsS q)) := by
  have hA := stayAll_inv hS ks (looseS q) _ (Nat.le_refl _)
  have hN := stayAll_names q ks (looseS q) _ (Nat.le_refl _)
  rw [← crashA_eq] at hA hN
  have A := simA S hS ks q.bodies.length (Nat.le_refl _)
  rw [← crashA_range hS ks] at A
  obtain ⟨s, hs⟩ : ∃ s, crashA q ks = s := ⟨_, rfl⟩
  obtain ⟨t, ht⟩ : ∃ t, stayAllR r ks q.bodies.length = t := ⟨_, rfl⟩
  rw [hs] at hA hN A
  rw [ht] at A
  have qk : s.1.kept = q.kept := by rw [A.qs]
  have qc : s.1.changes = q.changes := by rw [A.qs]
  have qr : s.1.room = q.room := by rw [A.qs]
  have rk : t.1.kept = r.kept := by rw [A.rs]
  have rc : t.1.changes = r.changes := by rw [A.rs]
  have rr : t.1.room = r.room := by rw [A.rs]
  have H1 : Home h { s.1 with loose := [] } := H.same hN hA.kept hA.changes
  have O1 : Once { s.1 with loose := [] } := O.same qk qc
  have hds : dirsS { s.1 with loose := [] } = dirsS q := by unfold dirsS; rw [show ({ s.1 with loose := [] } : Q).changes = q.changes from qc]
  have hnd : (dirsS q).Nodup := (dirsS_perm _).nodup_iff.2 hS.dc
  have hch : ∀ d, chL { s.1 with loose := [] } d = chL q d := fun d => by unfold chL; rw [show ({ s.1 with loose := [] } : Q).changes = q.changes from qc]
  have B := simB (r := t.1) H1 O1 (by rw [rk]; exact S.kept.trans qk.symm) (fun d => by rw [rc, hch]; exact S.chg d) s.2 (dirsS q) hnd _ (Nat.le_refl _)
  have C := crash_inv H1 s.2 (dirsS q) hnd _ (Nat.le_refl _)
  have D := dirAll_same ({ s.1 with loose := [] }, s.2) (dirsS q) _ (Nat.le_refl _)
  have e : dirAll ({ s.1 with loose := [] }, s.2) (dirsS q) (dirsS q).length = crashB s := by rw [crashB_eq, ← hds]; rfl
  have e2 : dirAllR (t.1, s.2) (dirsS q) (dirsS q).length = dirAllR t (dirsS q) (dirsS q).length := by rw [A.ks]
  rw [e] at B C D
  rw [e2] at B
  have hu : crashR r ks (dirsS q) = { (dirAllR t (dirsS q) (dirsS q).length).1 with names := (dirAllR t (dirsS q) (dirsS q).length).1.kept, fails := false } := by unfold crashR; rw [S.len, ht]
  have hv : crashQ q ks = { (crashB s).1 with changes := [], names := (crashB s).1.kept, told := false, ahead := 0, once := false } := by unfold crashQ; rw [hs]
  obtain ⟨u, hu2⟩ : ∃ u, (dirAllR t (dirsS q) (dirsS q).length).1 = u := ⟨_, rfl⟩
  obtain ⟨v, hv2⟩ : ∃ v, (crashB s).1 = v := ⟨_, rfl⟩
  have Bk : u.kept = v.kept := by rw [← hu2, ← hv2]; exact B.kept
  have Br := B.rs
  have Bc := B.chg
  have Bb := B.body
  have Ck := C.kept
  have Cp := C.part
  rw [hu2] at Br Bc
  rw [hv2] at Bb Ck Cp D
  rw [hu, hv, hu2, hv2]
  have ur : u.room = t.1.room := by rw [Br]
  have ub : u.bodies = t.1.bodies := by rw [Br]
  have uc : u.changes = [] := by
    rw [Bc, rc, List.take_length]
    refine List.filter_eq_nil_iff.2 (fun c hc hn => ?_)
    have hm : c.1 ∈ dirsS q := by
      rw [(dirsS_perm q).mem_iff]
      have h1 := S.chg c.1
      have h2 : c.2 ∈ (r.changes.filter fun x => decide (x.1 = c.1)).map (·.2) := List.mem_map.2 ⟨c, List.mem_filter.2 ⟨hc, by simp⟩, rfl⟩
      rw [h1] at h2
      cases hl : look q.changes c.1 with
      | none => unfold Go.Proofs.YtbodkjifpmencaaGreat.chL at h2; rw [hl] at h2; cases h2
      | some cs => exact List.mem_map.2 ⟨_, look_mem hl, rfl⟩
    rw [decide_eq_true hm] at hn
    cases hn
  have hub : ∀ k, rbody u k = rbody t.1 k := fun k => by unfold rbody; rw [ub]
  have hlen : v.bodies.length = q.bodies.length := D.2.2.trans A.ql
  refine ⟨?_, Bk, Bk, fun d => ?_, ?_, fun k hk => ?_, fun b hb => ?_, fun k hk => ?_, rfl, fun hf => ?_⟩
  · show u.room = v.room
    rw [ur, rr, S.room, D.1]
    exact qr.symm
  · show ((u.changes.filter _).map _) = _
    rw [uc]
    rfl
  · show u.bodies.length = v.bodies.length
    rw [ub, A.rl, S.len, hlen]
  · have hx : ∃ x ∈ v.kept, x.2 = k := by
      rcases hk with hk | hk | ⟨x, hx, _⟩
      · exact hk
      · exact hk
      · cases hx
    obtain ⟨x, hx, rfl⟩ := hx
    have hh := Ck x hx
    have hin : x ∈ inD (h x.2) v.kept := List.mem_filter.2 ⟨hx, by rw [hh]; simp⟩
    have hb := Bb x.2 (.inr (mem_vals.2 ⟨x.1, hin⟩))
    obtain ⟨n, hn, hp, _⟩ := Cp (h x.2)
    have hal : Alive q x.2 := by
      rw [hp] at hin
      rcases mem_appAll hin with h1 | ⟨c, hc, _, h2⟩
      · have h3 := (List.mem_filter.1 h1).1
        exact .inr (.inl ⟨x, by rw [← qk]; exact h3, rfl⟩)
      · have h4 := List.mem_of_mem_take hc
        rw [hch] at h4
        cases hl : look q.changes (h x.2) with
        | none => unfold Go.Proofs.YtbodkjifpmencaaGreat.chL at h4; rw [hl] at h4; cases h4
        | some cs => unfold Go.Proofs.YtbodkjifpmencaaGreat.chL at h4; rw [hl] at h4; exact .inr (.inr ⟨_, look_mem hl, c, h4, h2⟩)
    have hkq : x.2 < q.bodies.length := by
      rcases hal with ⟨y, hy, e⟩ | ⟨y, hy, e⟩ | ⟨y, hy, c, hc, e⟩
      · rw [← e]; exact (hS.kn y hy).2
      · rw [← e]; exact (hS.kk y hy).2
      · exact ((hS.kc y hy).2 c hc).2.2 _ e
    obtain ⟨a1, a2⟩ := A.alive x.2 hkq hal
    have a3 := A.done x.2 hkq
    show rbody u x.2 = ⟨(qbody v x.2).now, (qbody v x.2).now.take (qbody v x.2).kept⟩
    have hb' : qbody v x.2 = qbody s.1 x.2 := hb
    rw [hb', hub, a2, List.take_length, ← a1]
    cases hr : rbody t.1 x.2 with
    | mk n k => rw [hr] at a3; dsimp only at a3; rw [a3]
  · have hb' : b ∈ u.bodies := hb
    rw [ub] at hb'
    obtain ⟨k, hk, rfl⟩ := rbody_get t.1 hb'
    have hkq : k < q.bodies.length := by rw [← S.len, ← A.rl]; exact hk
    rw [A.done k hkq, List.take_length]
  · have hkq : k < q.bodies.length := by rw [← hlen]; exact hk
    have hvl : v.loose = [] := D.2.1
    show (∃ x ∈ v.loose, x.1 = k) ↔ (rbody u k).now ≠ (rbody u k).kept
    rw [hvl, hub, A.done k hkq]
    exact ⟨(fun hx => by obtain ⟨x, hx, _⟩ := hx; cases hx), fun hn => absurd rfl hn⟩
  · cases hf
end Go.Proofs.YtbodkjifpmencaaGreat
namespace Go.Proofs.YtbodkjifpmencaaGreat

theorem leB2_trans (a b c : Bs) (h1 : leB2 a b = true) (h2 : leB2 b c = true) : leB2 a c = true := by
  unfold leB2 at *
  simp only [decide_eq_true_eq] at *
  exact Std.le_trans h1 h2
theorem leB2_total (a b : Bs) : (leB2 a b || leB2 b a) = true := by
  unfold leB2
  simp only [Bool.or_eq_true, decide_eq_true_eq]
  exact Std.le_total
theorem leB2_anti (a b : Bs) (h1 : leB2 a b = true) (h2 : leB2 b a = true) : a = b := by
  unfold leB2 at *
  simp only [decide_eq_true_eq] at *
  exact Std.le_antisymm h1 h2
theorem not_lt_le2 (a b : Bs) : ¬ a < b ↔ leB2 b a = true := by
  unfold leB2
  simp only [decide_eq_true_eq]
  exact Std.not_lt
/-- One into the rising ones: ahead of the first that isn't less. -/
def insR : List Bs → Bs → List Bs
  | [], p => [p]
  | x :: xs, p => if x < p then x :: insR xs p else p :: x :: xs
def listRow (d : Bs) (out : List Bs) (x : Bs × Nat) : List Bs := if dirL x.1 = d then insR out x.1 else out
def listR (r : R) (d : Bs) : List Bs := r.names.foldl (listRow d) []
theorem insR_perm : ∀ (l : List Bs) (p : Bs), (insR l p).Perm (p :: l)
  | [], p => .refl _
  | x :: xs, p => by
    unfold insR
    split
    · exact ((insR_perm xs p).cons x).trans (.swap ..)
    · exact .refl _
theorem insR_sorted : ∀ (l : List Bs) (p : Bs), l.Pairwise (fun a b => leB2 a b = true) → (insR l p).Pairwise (fun a b => leB2 a b = true)
  | [], p, _ => List.pairwise_singleton ..
  | x :: xs, p, h => by
    rw [List.pairwise_cons] at h
    unfold insR
    split
    · rename_i hx
      rw [List.pairwise_cons]
      refine ⟨fun y hy => ?_, insR_sorted xs p h.2⟩
      rcases List.mem_cons.1 ((insR_perm xs p).mem_iff.1 hy) with rfl | hy
      · rcases Bool.or_eq_true _ _ ▸ leB2_total x y with h1 | h1
        · exact h1
        · exact absurd hx ((not_lt_le2 x y).2 h1)
      · exact h.1 y hy
    · rename_i hx
      have hp := (not_lt_le2 x p).1 hx
      rw [List.pairwise_cons]
      refine ⟨fun y hy => ?_, List.pairwise_cons.2 h⟩
      rcases List.mem_cons.1 hy with rfl | hy
      · exact hp
      · exact leB2_trans _ _ _ hp (h.1 y hy)
theorem list_go (d : Bs) : ∀ (l : Nm) (out : List Bs), out.Pairwise (fun a b => leB2 a b = true) → (l.foldl (listRow d) out).Pairwise (fun a b => leB2 a b = true) ∧ (l.foldl (listRow d) out).Perm (out ++ ((l.map (·.1)).filter fun p => dirL p == d))
  | [], out, h => ⟨h, by simp⟩
  | x :: l, out, h => by
    rw [List.foldl_cons]
    unfold listRow
    by_cases hx : dirL x.1 = d
    · rw [if_pos hx, List.map_cons, List.filter_cons_of_pos (by simpa using hx)]
      obtain ⟨h1, h2⟩ := list_go d l _ (insR_sorted out x.1 h)
      refine ⟨h1, h2.trans ?_⟩
      exact ((insR_perm out x.1).append_right _).trans (List.perm_middle.symm)
    · rw [if_neg hx, List.map_cons, List.filter_cons_of_neg (by simpa using hx)]
      exact list_go d l out h
theorem Sim.list {q : Q} {r : R} (S : Sim q r) (d : Bs) : listR r d = listQ q d := by
  unfold listR listQ
  rw [S.names]
  obtain ⟨h1, h2⟩ := list_go d q.names [] List.Pairwise.nil
  rw [List.nil_append] at h2
  refine List.Perm.eq_of_pairwise (le := fun a b => leB2 a b = true) (fun a b _ _ => leB2_anti a b) h1 (List.pairwise_mergeSort leB2_trans leB2_total _) ?_
  exact h2.trans (List.mergeSort_perm _ _).symm
/-! ### The least directory -/
def leastStep (m : Bs) (c : RCh) : Bs := if c.1 < m then c.1 else m
def leastR (l : List RCh) : Bs := l.foldl leastStep (l.headD ([], [])).1
theorem least_go : ∀ (l : List RCh) (m : Bs), (l.foldl leastStep m = m ∨ l.foldl leastStep m ∈ l.map (·.1)) ∧ leB2 (l.foldl leastStep m) m = true ∧ ∀ c ∈ l, leB2 (l.foldl leastStep m) c.1 = true
  | [], m => ⟨.inl rfl, by rcases Bool.or_eq_true _ _ ▸ leB2_total m m with h | h <;> exact h, (fun c hc => by cases hc)⟩
  | c :: l, m => by
    rw [List.foldl_cons]
    obtain ⟨h1, h2, h3⟩ := least_go l (leastStep m c)
    have hm : leB2 (leastStep m c) m = true ∧ leB2 (leastStep m c) c.1 = true ∧ (leastStep m c = m ∨ leastStep m c = c.1) := by
      unfold leastStep
      by_cases hc : c.1 < m
      · rw [if_pos hc]
        refine ⟨?_, ?_, .inr rfl⟩
        · rcases Bool.or_eq_true _ _ ▸ leB2_total c.1 m with h | h
          · exact h
          · exact absurd hc ((not_lt_le2 _ _).2 h)
        · rcases Bool.or_eq_true _ _ ▸ leB2_total c.1 c.1 with h | h <;> exact h
      · rw [if_neg hc]
        refine ⟨?_, (not_lt_le2 _ _).1 hc, .inl rfl⟩
        rcases Bool.or_eq_true _ _ ▸ leB2_total m m with h | h <;> exact h
    refine ⟨?_, leB2_trans _ _ _ h2 hm.1, fun x hx => ?_⟩
    · rcases h1 with h1 | h1
      · rw [h1]
        rcases hm.2.2 with h | h
        · exact .inl h
        · exact .inr (by rw [h]; exact List.mem_map.2 ⟨c, List.mem_cons_self .., rfl⟩)
      · exact .inr (by rw [List.map_cons]; exact List.mem_cons_of_mem _ h1)
    · rcases List.mem_cons.1 hx with rfl | hx
      · exact leB2_trans _ _ _ h2 hm.2.1
      · exact h3 x hx
theorem least_of {l : List RCh} (hl : l ≠ []) (d : Bs) (hd : ∃ c ∈ l, c.1 = d) (hle : ∀ c ∈ l, leB2 d c.1 = true) : leastR l = d := by
  obtain ⟨h1, _, h3⟩ := least_go l (l.headD ([], [])).1
  obtain ⟨c, hc, rfl⟩ := hd
  refine leB2_anti _ _ (h3 c hc) ?_
  rcases h1 with h1 | h1
  · show leB2 c.1 (l.foldl leastStep (l.headD ([], [])).1) = true
    rw [h1]
    cases l with
    | nil => exact absurd rfl hl
    | cons y l => exact hle y (List.mem_cons_self ..)
  · obtain ⟨x, hx, he⟩ := List.mem_map.1 h1
    show leB2 c.1 (l.foldl leastStep (l.headD ([], [])).1) = true
    rw [← he]
    exact hle x hx
end Go.Proofs.YtbodkjifpmencaaGreat
namespace Go.Proofs.YtbodkjifpmencaaGreat

structure RSm (N : Nat) (r : R) : Prop where
  nb : r.bodies.length ≤ N
  now : ∀ b ∈ r.bodies, b.now.length ≤ N ∧ b.kept.length ≤ b.now.length
  nc : r.changes.length ≤ N
  ch : ∀ c ∈ r.changes, c.2.length ≤ 2
theorem RSm.mono {N M : Nat} {r : R} (H : RSm N r) (h : N ≤ M) : RSm M r := ⟨Nat.le_trans H.nb h, fun b hb => ⟨Nat.le_trans (H.now b hb).1 h, (H.now b hb).2⟩, Nat.le_trans H.nc h, H.ch⟩
theorem RSm.new (room : Int) : RSm 0 (rNew room) := ⟨Nat.le_refl _, (fun b hb => by cases hb), Nat.le_refl _, (fun c hc => by cases hc)⟩
theorem RSm.same {N : Nat} {r r' : R} (H : RSm N r) (h1 : r'.bodies = r.bodies) (h2 : r'.changes = r.changes) : RSm N r' := ⟨by rw [h1]; exact H.nb, by rw [h1]; exact H.now, by rw [h2]; exact H.nc, by rw [h2]; exact H.ch⟩
theorem callR_same (r : R) (b : Bool) : (callR r b).2.bodies = r.bodies ∧ (callR r b).2.changes = r.changes ∧ (callR r b).2.names = r.names ∧ (callR r b).2.kept = r.kept ∧ (callR r b).2.room = r.room := by
  unfold callR
  split
  · split
    · split <;> exact ⟨rfl, rfl, rfl, rfl, rfl⟩
    · exact ⟨rfl, rfl, rfl, rfl, rfl⟩
  · exact ⟨rfl, rfl, rfl, rfl, rfl⟩
theorem RSm.call {N : Nat} {r : R} (H : RSm N r) (b : Bool) : RSm N (callR r b).2 := H.same (callR_same r b).1 (callR_same r b).2.1
theorem RSm.change {N : Nat} {r : R} (H : RSm N r) (d : Bs) (l : List (Bs × Option Nat)) (hl : l.length ≤ 2) : RSm (N + 1) (changeR r d l) := by
  refine ⟨Nat.le_succ_of_le H.nb, fun b hb => ⟨Nat.le_succ_of_le (H.now b hb).1, (H.now b hb).2⟩, ?_, fun c hc => ?_⟩
  · show (r.changes ++ [(d, l)]).length ≤ N + 1
    rw [List.length_append]
    exact Nat.succ_le_succ H.nc
  · rcases List.mem_append.1 (show c ∈ r.changes ++ [(d, l)] from hc) with hc | hc
    · exact H.ch c hc
    · simp at hc; subst hc; exact hl
theorem rbody_ok {N : Nat} {r : R} (H : RSm N r) (k : Nat) : (rbody r k).now.length ≤ N ∧ (rbody r k).kept.length ≤ (rbody r k).now.length := by
  unfold rbody
  rw [List.getD_eq_getElem?_getD]
  cases h : r.bodies[k]? with
  | none => exact ⟨Nat.zero_le _, Nat.zero_le _⟩
  | some b => exact H.now b (List.mem_of_getElem? h)
theorem RSm.setb {N M : Nat} {r : R} (H : RSm N r) (k : Nat) (x : RB2) (hM : N ≤ M) (h1 : x.now.length ≤ M) (h2 : x.kept.length ≤ x.now.length) : RSm M { r with bodies := r.bodies.set k x } := by
  refine ⟨by show (r.bodies.set k x).length ≤ M; rw [List.length_set]; exact Nat.le_trans H.nb hM, fun b hb => ?_, Nat.le_trans H.nc hM, H.ch⟩
  rcases List.mem_or_eq_of_mem_set hb with hb | rfl
  · exact ⟨Nat.le_trans (H.now b hb).1 hM, (H.now b hb).2⟩
  · exact ⟨h1, h2⟩
theorem RSm.write {N : Nat} {r : R} (H : RSm N r) (p b : Bs) : RSm (N + 2 + b.length) (writeR r p b).2 := by
  have H1 := H.call (rightL p)
  unfold writeR
  rcases hc : callR r (rightL p) with ⟨e, r1⟩
  rw [hc] at H1
  dsimp only at *
  split
  · split
    · have H2 : RSm (N + 1 + b.length) { r1 with bodies := r1.bodies ++ [⟨b, []⟩] } := by
        refine ⟨?_, fun x hx => ?_, Nat.le_trans H1.nc (by omega), H1.ch⟩
        · show (r1.bodies ++ [(⟨b, []⟩ : RB2)]).length ≤ _
          rw [List.length_append]
          have := H1.nb
          simp only [List.length_singleton]
          omega
        · rcases List.mem_append.1 (show x ∈ r1.bodies ++ [(⟨b, []⟩ : RB2)] from hx) with hx | hx
          · exact ⟨Nat.le_trans (H1.now x hx).1 (by omega), (H1.now x hx).2⟩
          · simp at hx; subst hx; exact ⟨by show b.length ≤ _; omega, Nat.zero_le _⟩
      exact (H2.change _ _ (by simp)).mono (by omega)
    · exact H1.mono (by omega)
  · exact H1.mono (by omega)
theorem RSm.append {N : Nat} {r : R} (H : RSm N r) (p b : Bs) : RSm (N + b.length) (appendR r p b).2 := by
  have H1 := H.call (rightL p)
  unfold appendR
  rcases hc : callR r (rightL p) with ⟨e, r1⟩
  rw [hc] at H1
  dsimp only at *
  split
  · split
    · exact H1.mono (by omega)
    · rename_i k _
      split
      · have := rbody_ok H1 k
        refine H1.setb k _ (by omega) ?_ ?_
        · show ((rbody r1 k).now ++ b).length ≤ _; rw [List.length_append]; omega
        · show (rbody r1 k).kept.length ≤ ((rbody r1 k).now ++ b).length; rw [List.length_append]; omega
      · exact H1.mono (by omega)
  · exact H1.mono (by omega)
theorem RSm.rename {N : Nat} {r : R} (H : RSm N r) (p t : Bs) : RSm (N + 1) (renameR r p t).2 := by
  have H1 := H.call (rightL p && rightL t && dirL p == dirL t)
  unfold renameR
  rcases hc : callR r (rightL p && rightL t && dirL p == dirL t) with ⟨e, r1⟩
  rw [hc] at H1
  dsimp only at *
  split
  · split
    · exact H1.mono (by omega)
    · dsimp only
      split
      · exact H1.mono (by omega)
      · exact H1.change _ _ (by simp)
  · exact H1.mono (by omega)
theorem RSm.remove {N : Nat} {r : R} (H : RSm N r) (p : Bs) : RSm (N + 1) (removeR r p).2 := by
  have H1 := H.call (rightL p)
  unfold removeR
  rcases hc : callR r (rightL p) with ⟨e, r1⟩
  rw [hc] at H1
  dsimp only at *
  split
  · split
    · exact H1.mono (by omega)
    · exact H1.change _ _ (by simp)
  · exact H1.mono (by omega)
theorem RSm.sync {N : Nat} {r : R} (H : RSm N r) (p : Bs) : RSm N (syncR r p).2 := by
  have H1 := H.call (rightL p)
  unfold syncR
  rcases hc : callR r (rightL p) with ⟨e, r1⟩
  rw [hc] at H1
  dsimp only at *
  split
  · split
    · exact H1
    · rename_i k _
      exact H1.setb k _ (Nat.le_refl _) (rbody_ok H1 k).1 (Nat.le_refl _)
  · exact H1
theorem keepGo_sub (d : Bs) : ∀ (cs : List RCh) (n : Nat) (l : Nm), (keepGo d cs n l).2.length ≤ cs.length ∧ ∀ c ∈ (keepGo d cs n l).2, c ∈ cs
  | [], n, l => ⟨Nat.le_refl _, fun _ h => h⟩
  | c :: cs, n, l => by
    unfold keepGo
    split
    · obtain ⟨h1, h2⟩ := keepGo_sub d cs n l
      refine ⟨Nat.succ_le_succ h1, fun x hx => ?_⟩
      rcases List.mem_cons.1 hx with rfl | hx
      · exact List.mem_cons_self ..
      · exact List.mem_cons_of_mem _ (h2 x hx)
    · obtain ⟨h1, h2⟩ := keepGo_sub d cs (n - 1) (c.2.foldl withR l)
      exact ⟨Nat.le_succ_of_le h1, fun x hx => List.mem_cons_of_mem _ (h2 x hx)⟩
theorem RSm.syncDir {N : Nat} {r : R} (H : RSm N r) (d : Bs) : RSm N (syncDirR r d).2 := by
  have H1 := H.call (d == [] || isPartL d)
  unfold syncDirR
  rcases hc : callR r (d == [] || isPartL d) with ⟨e, r1⟩
  rw [hc] at H1
  dsimp only at *
  split
  · obtain ⟨h1, h2⟩ := keepGo_sub d r1.changes r1.changes.length r1.kept
    exact ⟨H1.nb, H1.now, Nat.le_trans h1 H1.nc, fun c hc => H1.ch c (h2 c hc)⟩
  · exact H1
theorem RSm.stay {N : Nat} {s : R × List Int} (H : RSm N s.1) (k : Nat) : RSm N (stay1R s k).1 := by
  unfold stay1R
  split
  · exact H
  · have := rbody_ok H k
    refine H.setb k _ (Nat.le_refl _) ?_ (Nat.le_refl _)
    rw [List.length_take]
    omega
theorem RSm.stayAll {N : Nat} {r : R} (H : RSm N r) (ks : List Int) : ∀ i, RSm N (stayAllR r ks i).1
  | 0 => H
  | i + 1 => by
    unfold stayAllR
    rw [List.range_succ, List.foldl_append]
    exact (RSm.stayAll H ks i).stay i
theorem RSm.dirAll {N : Nat} {s : R × List Int} (H : RSm N s.1) (l : List Bs) : ∀ k, k ≤ l.length → RSm N (dirAllR s l k).1
  | 0, _ => H
  | k + 1, hk => by
    have I := RSm.dirAll H l k (by omega)
    rw [dirAllR_succ _ _ _ (by omega)]
    exact ⟨I.nb, I.now, Nat.le_trans (List.length_filter_le _ _) I.nc, fun c hc => I.ch c (List.mem_filter.1 hc).1⟩
theorem RSm.crash {N : Nat} {r : R} (H : RSm N r) (ks : List Int) (l : List Bs) : RSm N (crashR r ks l) :=
  ((H.stayAll ks _).dirAll l l.length (Nat.le_refl _)).same rfl rfl
/-! ### The crash's turns, one by one -/
theorem dirAllR_changes (s : R × List Int) (l : List Bs) : ∀ k, k ≤ l.length → (dirAllR s l k).1.changes = s.1.changes.filter fun c => !decide (c.1 ∈ l.take k)
  | 0, _ => (List.filter_eq_self.2 (by simp)).symm
  | k + 1, hk => by
    rw [dirAllR_succ _ _ _ (by omega)]
    obtain ⟨d0, hd0⟩ : ∃ d, l[k] = d := ⟨_, rfl⟩
    have htk : l.take (k + 1) = l.take k ++ [d0] := by rw [List.take_succ_eq_append_getElem (by omega), hd0]
    rw [hd0, htk]
    show (dirAllR s l k).1.changes.filter (fun c => !decide (c.1 = d0)) = _
    rw [dirAllR_changes s l k (by omega), List.filter_filter]
    refine List.filter_congr (fun c _ => ?_)
    simp [List.mem_append, Bool.and_comm]
theorem Sim.dirs {q : Q} {r : R} (S : Sim q r) {c : RCh} (hc : c ∈ r.changes) : c.1 ∈ dirsS q := by
  rw [(dirsS_perm q).mem_iff]
  have h1 := S.chg c.1
  have h2 : c.2 ∈ (r.changes.filter fun x => decide (x.1 = c.1)).map (·.2) := List.mem_map.2 ⟨c, List.mem_filter.2 ⟨hc, by simp⟩, rfl⟩
  rw [h1] at h2
  cases hl : look q.changes c.1 with
  | none => unfold Go.Proofs.YtbodkjifpmencaaGreat.chL at h2; rw [hl] at h2; cases h2
  | some cs => exact List.mem_map.2 ⟨_, look_mem hl, rfl⟩
theorem Sim.dirs_of {q : Q} {r : R} (S : Sim q r) (O : Once q) (dn : (q.changes.map (·.1)).Nodup) {d : Bs} (hd : d ∈ dirsS q) : ∃ c ∈ r.changes, c.1 = d := by
  rw [(dirsS_perm q).mem_iff] at hd
  obtain ⟨x, hx, rfl⟩ := List.mem_map.1 hd
  have h1 := S.chg x.1
  have h2 : chL q x.1 = x.2 := by unfold Go.Proofs.YtbodkjifpmencaaGreat.chL; rw [look_of_mem dn hx]; rfl
  have h3 := O.ne x hx
  rw [h2] at h1
  cases h4 : x.2 with
  | nil => exact absurd h4 h3
  | cons c cs =>
    rw [h4] at h1
    have h5 : trC c ∈ (r.changes.filter fun y => decide (y.1 = x.1)).map (·.2) := by rw [h1]; exact List.mem_cons_self ..
    obtain ⟨y, hy, _⟩ := List.mem_map.1 h5
    exact ⟨y, (List.mem_filter.1 hy).1, by simpa using (List.mem_filter.1 hy).2⟩
theorem Sim.crash_turn {N : Nat} {q : Q} {r : R} (S : Sim q r) (O : Once q) (hS : Small N q) (s : R × List Int) (hs : s.1.changes = r.changes) (k : Nat) (hk : k < (dirsS q).length) : (dirAllR s (dirsS q) k).1.changes ≠ [] ∧ leastR (dirAllR s (dirsS q) k).1.changes = (dirsS q)[k] := by
  have hnd : (dirsS q).Nodup := (dirsS_perm _).nodup_iff.2 hS.dc
  have hso : (dirsS q).Pairwise (fun a b => leB2 a b = true) := List.pairwise_mergeSort leB2_trans leB2_total _
  obtain ⟨c, hc, hcd⟩ := S.dirs_of O hS.dc (List.getElem_mem hk)
  rw [dirAllR_changes s _ k (by omega), hs]
  have hnot : (dirsS q)[k] ∉ (dirsS q).take k := by
    intro hmem
    have h2 := hnd
    rw [← List.take_append_drop k (dirsS q), List.nodup_append] at h2
    exact h2.2.2 _ hmem (dirsS q)[k] (by rw [List.drop_eq_getElem_cons (by omega)]; exact List.mem_cons_self ..) rfl
  have hin : c ∈ r.changes.filter fun c => !decide (c.1 ∈ (dirsS q).take k) := List.mem_filter.2 ⟨hc, by rw [hcd]; simpa using hnot⟩
  refine ⟨(fun h => by rw [h] at hin; cases hin), least_of (fun h => by rw [h] at hin; cases hin) _ ⟨c, hin, hcd⟩ (fun x hx => ?_)⟩
  obtain ⟨h1, h2⟩ := List.mem_filter.1 hx
  have h3 := S.dirs h1
  rw [← List.take_append_drop k (dirsS q), List.mem_append] at h3
  rcases h3 with h3 | h3
  · rw [decide_eq_true h3] at h2; cases h2
  · rw [List.drop_eq_getElem_cons hk] at h3
    rcases List.mem_cons.1 h3 with h3 | h3
    · rw [h3]
      rcases Bool.or_eq_true _ _ ▸ leB2_total (dirsS q)[k] (dirsS q)[k] with h | h <;> exact h
    · have h4 := hso
      rw [← List.take_append_drop k (dirsS q), List.pairwise_append, List.drop_eq_getElem_cons hk, List.pairwise_cons] at h4
      exact h4.2.1.1 _ h3
theorem Sim.crash_end {q : Q} {r : R} (S : Sim q r) (s : R × List Int) (hs : s.1.changes = r.changes) : (dirAllR s (dirsS q) (dirsS q).length).1.changes = [] := by
  rw [dirAllR_changes s _ _ (Nat.le_refl _), hs, List.take_length]
  refine List.filter_eq_nil_iff.2 (fun c hc hn => ?_)
  rw [decide_eq_true (S.dirs hc)] at hn
  cases hn
end Go.Proofs.YtbodkjifpmencaaGreat
namespace Go.Proofs.YtbodkjifpmencaaGreat

structure Dbl (N : Nat) (q : Q) (r : R) : Prop where
  sim : Sim q r
  home : ∃ h, Home h q
  once : Once q
  small : Small N q
  rsm : RSm N r
theorem Dbl.mono {N M : Nat} {q : Q} {r : R} (D : Dbl N q r) (h : N ≤ M) : Dbl M q r := ⟨D.sim, D.home, D.once, D.small.mono h, D.rsm.mono h⟩
theorem Dbl.new (room : Int) (h : room ≤ 9223372036854775807) : Dbl 0 (qNew room) (rNew room) := ⟨Sim.new room, ⟨_, Home.new room⟩, Once.new room, Small.new room h, RSm.new room⟩
theorem Dbl.write {N : Nat} {q : Q} {r : R} (D : Dbl N q r) (p b : Bs) : (writeR r p b).1 = (writeQ q p b).1 ∧ Dbl (N + 3 + b.length) (writeQ q p b).2 (writeR r p b).2 := by
  obtain ⟨h, H⟩ := D.home
  obtain ⟨e, S⟩ := D.sim.write D.small p b
  exact ⟨e, S, H.write D.small p b, D.once.write H D.small p b, D.small.write p b, (D.rsm.write p b).mono (by omega)⟩
theorem Dbl.append {N : Nat} {q : Q} {r : R} (D : Dbl N q r) (p b : Bs) : (appendR r p b).1 = (appendQ q p b).1 ∧ Dbl (N + 3 + b.length) (appendQ q p b).2 (appendR r p b).2 := by
  obtain ⟨h, H⟩ := D.home
  obtain ⟨e, S⟩ := D.sim.append D.small p b
  exact ⟨e, S, ⟨h, H.append p b⟩, D.once.append p b, (D.small.append p b).mono (by omega), (D.rsm.append p b).mono (by omega)⟩
theorem Dbl.rename {N : Nat} {q : Q} {r : R} (D : Dbl N q r) (p t : Bs) : (renameR r p t).1 = (renameQ q p t).1 ∧ Dbl (N + 3) (renameQ q p t).2 (renameR r p t).2 := by
  obtain ⟨h, H⟩ := D.home
  obtain ⟨e, S⟩ := D.sim.rename p t
  exact ⟨e, S, ⟨h, H.rename p t⟩, D.once.rename H p t, (D.small.rename p t).mono (by omega), (D.rsm.rename p t).mono (by omega)⟩
theorem Dbl.remove {N : Nat} {q : Q} {r : R} (D : Dbl N q r) (p : Bs) : (removeR r p).1 = (removeQ q p).1 ∧ Dbl (N + 3) (removeQ q p).2 (removeR r p).2 := by
  obtain ⟨h, H⟩ := D.home
  obtain ⟨e, S⟩ := D.sim.remove p
  exact ⟨e, S, ⟨h, H.remove p⟩, D.once.remove H p, (D.small.remove p).mono (by omega), (D.rsm.remove p).mono (by omega)⟩
theorem Dbl.sync {N : Nat} {q : Q} {r : R} (D : Dbl N q r) (p : Bs) : (syncR r p).1 = (syncQ q p).1 ∧ Dbl (N + 3) (syncQ q p).2 (syncR r p).2 := by
  obtain ⟨h, H⟩ := D.home
  obtain ⟨e, S⟩ := D.sim.sync D.small p
  exact ⟨e, S, ⟨h, H.sync p⟩, D.once.sync p, (D.small.sync p).mono (by omega), (D.rsm.sync p).mono (by omega)⟩
theorem Dbl.syncDir {N : Nat} {q : Q} {r : R} (D : Dbl N q r) (d : Bs) : (syncDirR r d).1 = (syncDirQ q d).1 ∧ Dbl (N + 3) (syncDirQ q d).2 (syncDirR r d).2 := by
  obtain ⟨h, H⟩ := D.home
  obtain ⟨e, S⟩ := D.sim.syncDir H D.once d
  exact ⟨e, S, ⟨h, H.syncDir d⟩, D.once.syncDir H d, (D.small.syncDir d).mono (by omega), (D.rsm.syncDir d).mono (by omega)⟩
theorem Dbl.fail {N : Nat} {q : Q} {r : R} (D : Dbl N q r) (calls : Int) (once : Bool) (h0 : -9223372036854775808 ≤ calls) (h1 : calls ≤ 9223372036854775807) : Dbl N (failQ q calls once) (failR r calls once) := by
  obtain ⟨h, H⟩ := D.home
  exact ⟨D.sim.fail calls once, ⟨h, H.same rfl rfl rfl⟩, D.once.same rfl rfl, D.small.fail calls once h0 h1, D.rsm.same rfl rfl⟩
theorem Dbl.crash {N : Nat} {q : Q} {r : R} (D : Dbl N q r) (ks : List Int) : Dbl N (crashQ q ks) (crashR r ks (dirsS q)) := by
  obtain ⟨h, H⟩ := D.home
  exact ⟨D.sim.crash H D.once D.small ks, ⟨h, H.crash D.small ks⟩, Once.crash q ks, D.small.crash ks, D.rsm.crash ks _⟩
/-! ### What the walks need to know of the document's disk -/
theorem Dbl.rname {N : Nat} {q : Q} {r : R} (D : Dbl N q r) {x : Bs × Nat} (hx : x ∈ r.names) : x.1.length ≤ 161 ∧ x.2 < r.bodies.length := by
  rw [D.sim.names] at hx
  rw [D.sim.len]
  exact D.small.kn x hx
theorem Dbl.rkept {N : Nat} {q : Q} {r : R} (D : Dbl N q r) {x : Bs × Nat} (hx : x ∈ r.kept) : x.1.length ≤ 161 ∧ x.2 < r.bodies.length := by
  rw [D.sim.kept] at hx
  rw [D.sim.len]
  exact D.small.kk x hx
theorem Dbl.rnames {N : Nat} {q : Q} {r : R} (D : Dbl N q r) : r.names.length ≤ N := by rw [D.sim.names]; exact D.small.nn
theorem Dbl.rkepts {N : Nat} {q : Q} {r : R} (D : Dbl N q r) : r.kept.length ≤ N := by rw [D.sim.kept]; have := D.small.nk; omega
theorem Dbl.rused {N : Nat} {q : Q} {r : R} (D : Dbl N q r) : usedR r ≤ N * N := by rw [D.sim.used]; exact D.small.used
theorem Dbl.rchange {N : Nat} {q : Q} {r : R} (D : Dbl N q r) {c : RCh} (hc : c ∈ r.changes) : c.1.length ≤ 161 ∧ ∀ x ∈ c.2, x.1.length ≤ 161 ∧ ∀ k, x.2 = some k → k < r.bodies.length := by
  have h1 := D.sim.chg c.1
  have h2 : c.2 ∈ (r.changes.filter fun x => decide (x.1 = c.1)).map (·.2) := List.mem_map.2 ⟨c, List.mem_filter.2 ⟨hc, by simp⟩, rfl⟩
  rw [h1] at h2
  obtain ⟨qc, hq, e⟩ := List.mem_map.1 h2
  cases hl : look q.changes c.1 with
  | none => unfold Go.Proofs.YtbodkjifpmencaaGreat.chL at hq; rw [hl] at hq; cases hq
  | some cs =>
    unfold Go.Proofs.YtbodkjifpmencaaGreat.chL at hq
    rw [hl] at hq
    obtain ⟨k1, k2⟩ := D.small.kc _ (look_mem hl)
    obtain ⟨k3, k4, k5⟩ := k2 qc hq
    refine ⟨k1, fun x hx => ?_⟩
    rw [← e] at hx
    unfold trC at hx
    rw [D.sim.len]
    cases hb : qc.body with
    | none =>
      rw [hb] at hx
      simp at hx
      subst hx
      exact ⟨k3, (fun k hk => by cases hk)⟩
    | some j =>
      rw [hb] at hx
      dsimp only at hx
      split at hx
      · simp at hx
        subst hx
        exact ⟨k4, fun k hk => by cases hk; exact k5 _ hb⟩
      · simp at hx
        rcases hx with rfl | rfl
        · exact ⟨k3, (fun k hk => by cases hk)⟩
        · exact ⟨k4, fun k hk => by cases hk; exact k5 _ hb⟩
end Go.Proofs.YtbodkjifpmencaaGreat
