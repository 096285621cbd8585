/-
  What a crash does, as plain functions: what holds between its steps. No conditions.
-/
import Derived.Test.YtbodkjifpmencaaGreatVfS
namespace Go.Proofs.YtbodkjifpmencaaGreat

theorem next_le (ks : List Int) (most : Nat) : (nextQ ks most).1 ≤ most := by
  unfold nextQ
  cases ks with
  | nil => simp
  | cons z r =>
    have h1 := Int.emod_lt_of_pos z (show (0 : Int) < (most : Int) + 1 by omega)
    have h2 := Int.emod_nonneg z (show (most : Int) + 1 ≠ 0 by omega)
    show (z % ((most : Int) + 1)).toNat ≤ most
    omega
theorem next_sub (ks : List Int) (most : Nat) : ∀ z ∈ (nextQ ks most).2, z ∈ ks := by
  unfold nextQ
  cases ks with
  | nil => simp
  | cons z r => intro x hx; exact List.mem_cons_of_mem _ hx
theorem next_len (ks : List Int) (most : Nat) : (nextQ ks most).2.length ≤ ks.length := by
  unfold nextQ
  cases ks with
  | nil => simp
  | cons z r => simp
/-- What holds while bodies stay. -/
structure StayInv (N : Nat) (q : Q) (ks : List Int) (s : Q × List Int) : Prop where
  small : Small N s.1
  loose : s.1.loose = q.loose
  changes : s.1.changes = q.changes
  len : s.1.bodies.length = q.bodies.length
  kept : s.1.kept = q.kept
  sub : ∀ z ∈ s.2, z ∈ ks
  kl : s.2.length ≤ ks.length
theorem StayInv.start {N : Nat} {q : Q} (h : Small N q) (ks : List Int) : StayInv N q ks (q, ks) := ⟨h, rfl, rfl, rfl, rfl, fun _ h => h, Nat.le_refl _⟩
theorem stay_kept {N : Nat} {q : Q} (h : Small N q) (ks : List Int) (k : Nat) : (qbody q k).kept + (nextQ ks ((qbody q k).now.length - (qbody q k).kept)).1 ≤ (qbody q k).now.length := by
  have := next_le ks ((qbody q k).now.length - (qbody q k).kept)
  have := (h.body k).2
  omega
theorem StayInv.step {N : Nat} {q : Q} {ks : List Int} {s : Q × List Int} (h : StayInv N q ks s) (k : Nat) : StayInv N q ks (stay1Q s k) := by
  have hk := stay_kept h.small s.2 k
  have hb := h.small.body k
  refine ⟨?_, h.loose, h.changes, by show (s.1.bodies.set _ _).length = _; rw [List.length_set]; exact h.len, h.kept, fun z hz => h.sub z (next_sub _ _ z hz), Nat.le_trans (next_len _ _) h.kl⟩
  have h1 : ((qbody s.1 k).now.take ((qbody s.1 k).kept + (nextQ s.2 ((qbody s.1 k).now.length - (qbody s.1 k).kept)).1)).length = (qbody s.1 k).kept + (nextQ s.2 ((qbody s.1 k).now.length - (qbody s.1 k).kept)).1 := by rw [List.length_take]; omega
  exact h.small.setB (Nat.le_refl _) k ⟨(qbody s.1 k).now.take ((qbody s.1 k).kept + (nextQ s.2 ((qbody s.1 k).now.length - (qbody s.1 k).kept)).1), (qbody s.1 k).kept + (nextQ s.2 ((qbody s.1 k).now.length - (qbody s.1 k).kept)).1⟩ (by show (List.take _ _).length ≤ N; rw [h1]; have := hb.1; omega) (Nat.le_of_eq h1.symm) s.1.loose h.small.nl h.small.kl h.small.dl
theorem foldl_take {α β : Type} (f : β → α → β) (b : β) (l : List α) (k : Nat) (h : k < l.length) : (l.take (k + 1)).foldl f b = f ((l.take k).foldl f b) l[k] := by
  rw [List.take_succ_eq_append_getElem h, List.foldl_append]; rfl
def stayAll (q : Q) (ks : List Int) (l : List Nat) (k : Nat) : Q × List Int := (l.take k).foldl stay1Q (q, ks)
theorem stayAll_inv {N : Nat} {q : Q} (h : Small N q) (ks : List Int) (l : List Nat) : ∀ k, k ≤ l.length → StayInv N q ks (stayAll q ks l k) := by
  intro k
  induction k with
  | zero => intro _; exact StayInv.start h ks
  | succ k ih =>
    intro hk
    unfold stayAll
    rw [foldl_take _ _ _ _ (by omega)]
    exact (ih (by omega)).step _
theorem stayAll_succ (q : Q) (ks : List Int) (l : List Nat) (k : Nat) (h : k < l.length) : stayAll q ks l (k + 1) = stay1Q (stayAll q ks l k) l[k] := foldl_take _ _ _ _ h
/-! ### Directories -/
def dirAll (s : Q × List Int) (l : List Bs) (k : Nat) : Q × List Int := (l.take k).foldl keepDir1Q s
theorem dirAll_succ (s : Q × List Int) (l : List Bs) (k : Nat) (h : k < l.length) : dirAll s l (k + 1) = keepDir1Q (dirAll s l k) l[k] := foldl_take _ _ _ _ h
def lens (q : Q) (l : List Bs) : Nat := (l.map fun d => ((look q.changes d).getD []).length).sum
structure DirInv (q : Q) (ks : List Int) (M : Nat) (s : Q × List Int) : Prop where
  keeps : Keeps M s.1
  changes : s.1.changes = q.changes
  len : s.1.bodies.length = q.bodies.length
  loose : s.1.loose = q.loose
  names : s.1.names = q.names
  sub : ∀ z ∈ s.2, z ∈ ks
  kl : s.2.length ≤ ks.length
theorem keepQ_same' (q : Q) : ∀ cs : List QC, (keepQ q cs).names = q.names ∧ (keepQ q cs).changes = q.changes ∧ (keepQ q cs).loose = q.loose := by
  intro cs
  unfold keepQ
  induction cs generalizing q with
  | nil => exact ⟨rfl, rfl, rfl⟩
  | cons c r ih =>
    rw [List.foldl_cons]
    have h := ih (keep1Q q c)
    unfold keep1Q goneQ at *
    cases hl : look q.kept c.to <;> rw [hl] at h <;> exact h
theorem DirInv.step {q : Q} {ks : List Int} {M : Nat} {s : Q × List Int} (h : DirInv q ks M s) {N : Nat} (hS : Small N q) (d : Bs) : DirInv q ks (M + ((look q.changes d).getD []).length) (keepDir1Q s d) := by
  have hn := next_le s.2 ((look s.1.changes d).getD []).length
  have hok : ∀ c ∈ ((look s.1.changes d).getD []), c.to.length ≤ 161 ∧ ∀ k, c.body = some k → k < s.1.bodies.length := by
    intro c hc
    rw [h.changes] at hc
    cases hl : look q.changes d with
    | none => rw [hl] at hc; simp at hc
    | some cs =>
      rw [hl] at hc
      have := (hS.kc _ (look_mem hl)).2 c hc
      exact ⟨this.2.1, fun k hk => by rw [h.len]; exact this.2.2 k hk⟩
  obtain ⟨h1, h2, h3⟩ := keepQ_same' s.1 (((look s.1.changes d).getD []).take (nextQ s.2 ((look s.1.changes d).getD []).length).1)
  refine ⟨?_, h2.trans h.changes, (keepQ_len _ _).trans h.len, h3.trans h.loose, h1.trans h.names, fun z hz => h.sub z (next_sub _ _ z hz), Nat.le_trans (next_len _ _) h.kl⟩
  have := h.keeps.take _ hok (nextQ s.2 ((look s.1.changes d).getD []).length).1 hn
  refine ⟨Nat.le_trans this.len ?_, this.ok⟩
  rw [← h.changes]
  omega
theorem lens_take (q : Q) (l : List Bs) (k : Nat) (h : k < l.length) : lens q (l.take (k + 1)) = lens q (l.take k) + ((look q.changes l[k]).getD []).length := by
  unfold lens
  rw [List.take_succ_eq_append_getElem h, List.map_append, List.sum_append]
  simp
theorem dirAll_inv {N : Nat} {q : Q} (hS : Small N q) (ks : List Int) (l : List Bs) : ∀ k, k ≤ l.length → DirInv q ks (q.kept.length + lens q (l.take k)) (dirAll (q, ks) l k) := by
  intro k
  induction k with
  | zero => intro _; exact ⟨⟨by simp [dirAll], hS.kk⟩, rfl, rfl, rfl, rfl, fun _ h => h, Nat.le_refl _⟩
  | succ k ih =>
    intro hk
    have h := (ih (by omega)).step hS l[k]
    rw [dirAll_succ _ _ _ (by omega), lens_take q l k (by omega), ← Nat.add_assoc]
    exact h
theorem lens_all {q : Q} {l : List Bs} (hp : l.Perm (q.changes.map (·.1))) (hd : (q.changes.map (·.1)).Nodup) : lens q l = (q.changes.map fun x => x.2.length).sum := by
  unfold lens
  rw [(hp.map _).sum_nat, List.map_map]
  congr 1
  refine List.map_congr_left (fun x hx => ?_)
  show ((look q.changes x.1).getD []).length = _
  rw [look_of_mem hd hx]; rfl
theorem lens_le (q : Q) (l : List Bs) (k : Nat) : lens q (l.take k) ≤ lens q l := by
  unfold lens
  conv => rhs; rw [← List.take_append_drop k l]
  rw [List.map_append, List.sum_append]
  omega
/-- The sorted numbers, the sorted directories. -/
def looseS (q : Q) : List Nat := (q.loose.map (·.1)).mergeSort (fun x y => decide (x ≤ y))
def dirsS (q : Q) : List Bs := (q.changes.map (·.1)).mergeSort leB2
theorem looseS_mem {q : Q} {k : Nat} (h : k ∈ looseS q) : k ∈ q.loose.map (·.1) := (List.mergeSort_perm _ _).mem_iff.1 h
theorem dirsS_perm (q : Q) : (dirsS q).Perm (q.changes.map (·.1)) := List.mergeSort_perm _ _
theorem crashA_eq (q : Q) (ks : List Int) : crashA q ks = stayAll q ks (looseS q) (looseS q).length := by unfold crashA stayAll looseS; rw [List.take_length]
theorem crashB_eq (s : Q × List Int) : crashB s = dirAll ({ s.1 with loose := [] }, s.2) (dirsS s.1) (dirsS s.1).length := by unfold crashB dirAll dirsS; rw [List.take_length]
/-- Sorted, as numbers of the other kind. -/
theorem sort_cast (ss : List Int) (l : List Nat) (h : ss.Perm (l.map fun (k : Nat) => (k : Int))) : ss.mergeSort (fun x y => decide (x ≤ y)) = (l.mergeSort (fun x y => decide (x ≤ y))).map fun (k : Nat) => (k : Int) := by
  have tr : ∀ a b c : Int, decide (a ≤ b) = true → decide (b ≤ c) = true → decide (a ≤ c) = true := fun a b c h1 h2 => by simp only [decide_eq_true_eq] at *; omega
  have to : ∀ a b : Int, (decide (a ≤ b) || decide (b ≤ a)) = true := fun a b => by simp only [Bool.or_eq_true, decide_eq_true_eq]; omega
  have tr2 : ∀ a b c : Nat, decide (a ≤ b) = true → decide (b ≤ c) = true → decide (a ≤ c) = true := fun a b c h1 h2 => by simp only [decide_eq_true_eq] at *; omega
  have to2 : ∀ a b : Nat, (decide (a ≤ b) || decide (b ≤ a)) = true := fun a b => by simp only [Bool.or_eq_true, decide_eq_true_eq]; omega
  refine List.Perm.eq_of_pairwise (le := fun a b => decide (a ≤ b) = true) (fun a b _ _ h1 h2 => ?_) (List.pairwise_mergeSort tr to ss) ?_ (((List.mergeSort_perm ss _).trans h).trans ((List.mergeSort_perm l _).symm.map _))
  · simp only [decide_eq_true_eq] at h1 h2; omega
  · rw [List.pairwise_map]
    refine (List.pairwise_mergeSort tr2 to2 l).imp (fun {a b} h => ?_)
    simp only [decide_eq_true_eq] at h ⊢
    omega
end Go.Proofs.YtbodkjifpmencaaGreat
