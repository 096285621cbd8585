/-
  A crash keeps each body at home; how many bytes there are at most; names are right paths. No conditions.
-/
import Derived.Test.YtbodkjifpmencaaGreatVfK
namespace Go.Proofs.YtbodkjifpmencaaGreat

theorem stayAll_names (q : Q) (ks : List Int) (l : List Nat) : ∀ k, k ≤ l.length → (stayAll q ks l k).1.names = q.names := by
  intro k
  induction k with
  | zero => intro _; rfl
  | succ k ih =>
    intro hk
    rw [stayAll_succ _ _ _ _ (by omega)]
    exact ih (by omega)
structure CrashInv (h : Nat → Bs) (q : Q) (l : List Bs) (k : Nat) (s : Q × List Int) : Prop where
  changes : s.1.changes = q.changes
  kept : ∀ x ∈ s.1.kept, dirL x.1 = h x.2
  part : ∀ d, ∃ n, n ≤ (chL q d).length ∧ inD d s.1.kept = appAll ((chL q d).take n) (inD d q.kept) ∧ (d ∉ l.take k → n = 0)
theorem crash_inv {h : Nat → Bs} {q : Q} (H : Home h q) (ks : List Int) (l : List Bs) (hl : l.Nodup) : ∀ k, k ≤ l.length → CrashInv h q l k (dirAll (q, ks) l k) := by
  intro k
  induction k with
  | zero => intro _; exact ⟨rfl, H.kept, fun d => ⟨0, Nat.zero_le _, rfl, fun _ => rfl⟩⟩
  | succ k ih =>
    intro hk
    have I := ih (by omega)
    rw [dirAll_succ _ _ _ (by omega)]
    obtain ⟨s, hs⟩ : ∃ s, dirAll (q, ks) l k = s := ⟨_, rfl⟩
    rw [hs] at I ⊢
    obtain ⟨d0, hd0⟩ : ∃ d, l[k] = d := ⟨_, rfl⟩
    rw [hd0]
    have hcs : (look s.1.changes d0).getD [] = chL q d0 := by rw [I.changes]; rfl
    obtain ⟨m, hm⟩ : ∃ m, (nextQ s.2 (chL q d0).length).1 = m := ⟨_, rfl⟩
    have hml : m ≤ (chL q d0).length := by rw [← hm]; exact next_le _ _
    have hq : (keepDir1Q s d0).1 = keepQ s.1 ((chL q d0).take m) := by
      show keepQ s.1 (((look s.1.changes d0).getD []).take (nextQ s.2 ((look s.1.changes d0).getD []).length).1) = _
      rw [hcs, hm]
    have hk1 : (keepDir1Q s d0).1.kept = appAll ((chL q d0).take m) s.1.kept := by rw [hq, keepQ_kept]
    have hch := H.chL d0
    have hct : ∀ c ∈ (chL q d0).take m, dirL c.frm = d0 ∧ dirL c.to = d0 := fun c hc => ⟨(hch c (List.mem_of_mem_take hc)).1, (hch c (List.mem_of_mem_take hc)).2.1⟩
    refine ⟨by rw [hq]; exact (keepQ_same s.1 _).2.1.trans I.changes, ?_, fun d => ?_⟩
    · rw [hk1]
      exact H.keptOf _ (fun c hc j hj => by have := hch c (List.mem_of_mem_take hc); rw [this.2.1]; exact this.2.2 j hj) I.kept
    · obtain ⟨n, hn, hp, hz⟩ := I.part d
      by_cases he : d = d0
      · subst he
        have hnot : d ∉ l.take k := by
          intro hmem
          have h2 := hl
          rw [← List.take_append_drop k l, List.nodup_append] at h2
          exact h2.2.2 d hmem l[k] (by rw [List.drop_eq_getElem_cons (by omega)]; exact List.mem_cons_self ..) hd0.symm
        have := hz hnot
        subst this
        refine ⟨m, hml, ?_, fun hx => absurd (show d ∈ l.take (k + 1) by rw [List.take_succ_eq_append_getElem (by omega), hd0]; exact List.mem_append_right _ (List.mem_singleton.2 rfl)) hx⟩
        rw [hk1, inD_all d _ hct, hp]
        rfl
      · refine ⟨n, hn, ?_, fun hx => hz (fun hmem => hx (by rw [List.take_succ_eq_append_getElem (by omega)]; exact List.mem_append_left _ hmem))⟩
        rw [hk1, inD_allfar d d0 (Ne.symm he) _ hct, hp]
theorem Home.crash {h : Nat → Bs} {q : Q} (H : Home h q) {N : Nat} (hS : Small N q) (ks : List Int) : Home h (crashQ q ks) := by
  have hA := stayAll_inv hS ks (looseS q) _ (Nat.le_refl _)
  have hN := stayAll_names q ks (looseS q) _ (Nat.le_refl _)
  rw [← crashA_eq] at hA hN
  obtain ⟨s, hs⟩ : ∃ s, crashA q ks = s := ⟨_, rfl⟩
  rw [hs] at hA hN
  have H1 : Home h { s.1 with loose := [] } := H.same hN hA.kept hA.changes
  have hnd : (dirsS { s.1 with loose := [] }).Nodup := (dirsS_perm _).nodup_iff.2 hA.small.dc
  have I := crash_inv H1 s.2 (dirsS { s.1 with loose := [] }) hnd _ (Nat.le_refl _)
  have e : dirAll ({ s.1 with loose := [] }, s.2) (dirsS { s.1 with loose := [] }) (dirsS { s.1 with loose := [] }).length = crashB s := (crashB_eq s).symm
  rw [e] at I
  unfold crashQ
  rw [hs]
  refine ⟨I.kept, (fun x hx => by cases hx), fun d => rfl, fun d n _ => ?_⟩
  obtain ⟨m, hm, hp, _⟩ := I.part d
  have hi := H1.inj d m hm
  rw [← hp] at hi
  have e2 : appAll ((Go.Proofs.YtbodkjifpmencaaGreat.chL { (crashB s).1 with changes := [], names := (crashB s).1.kept, told := false, ahead := 0, once := false } d).take n) (inD d (crashB s).1.kept) = inD d (crashB s).1.kept := by
    have : Go.Proofs.YtbodkjifpmencaaGreat.chL { (crashB s).1 with changes := [], names := (crashB s).1.kept, told := false, ahead := 0, once := false } d = [] := rfl
    rw [this, List.take_nil]
    rfl
  show ((appAll _ (inD d (crashB s).1.kept)).map (·.2)).Nodup
  rw [e2]
  exact hi
/-! ### Bytes -/
theorem sum_set (f : QB → Nat) (x : QB) (m : Nat) : ∀ (l : List QB) (k : Nat), (∀ y, l[k]? = some y → f x ≤ f y + m) → ((l.set k x).map f).sum ≤ (l.map f).sum + m
  | [], k, _ => by simp
  | y :: r, 0, h => by have := h y rfl; simp only [List.set_cons_zero, List.map_cons, List.sum_cons]; omega
  | y :: r, k + 1, h => by have := sum_set f x m r k (fun z hz => h z (by simpa using hz)); simp only [List.set_cons_succ, List.map_cons, List.sum_cons]; omega
theorem total_set (q : Q) (k : Nat) (x : QB) (m : Nat) (h : x.now.length ≤ (qbody q k).now.length + m) (q' : Q) (hq : q'.bodies = q.bodies.set k x) : totalB q' ≤ totalB q + m := by
  unfold totalB
  rw [hq]
  refine sum_set (fun b => b.now.length) x m q.bodies k (fun y hy => ?_)
  have : qbody q k = y := by unfold qbody; rw [List.getD_eq_getElem?_getD, hy]; rfl
  rw [← this]
  exact h
theorem total_same {q q' : Q} (h : q'.bodies = q.bodies) : totalB q' = totalB q := by unfold totalB; rw [h]
theorem total_keep1 (q : Q) (c : QC) : totalB (keep1Q q c) ≤ totalB q := by
  unfold keep1Q goneQ
  cases look q.kept c.to with
  | none => exact Nat.le_of_eq (total_same rfl)
  | some g => exact total_set q g ⟨[], 0⟩ 0 (Nat.zero_le _) _ rfl
theorem total_keepQ : ∀ (cs : List QC) (q : Q), totalB (keepQ q cs) ≤ totalB q
  | [], _q => Nat.le_refl _
  | c :: r, q => Nat.le_trans (total_keepQ r (keep1Q q c)) (total_keep1 q c)
theorem total_begin (q : Q) (r : Bool) : totalB (beginQ q r).2 = totalB q := total_same (begin_keeps q r).2.2.2
theorem total_extend (q : Q) (k : Nat) (b : Bs) : totalB (extendQ q k b) ≤ totalB q + b.length := by
  unfold extendQ
  split
  · omega
  · exact total_set q k ⟨(qbody q k).now ++ b, (qbody q k).kept⟩ b.length (by rw [List.length_append]; omega) _ rfl
theorem total_write (q : Q) (p b : Bs) : totalB (writeQ q p b).2 ≤ totalB q + b.length := by
  have h1 := total_begin q (rightL p)
  unfold writeQ
  rcases hb : beginQ q (rightL p) with ⟨e, q1⟩
  rw [hb] at h1
  dsimp only at *
  split
  · split
    · have h2 := total_extend { q1 with bodies := q1.bodies ++ [⟨[], 0⟩] } q1.bodies.length b
      have h3 : totalB { q1 with bodies := q1.bodies ++ [⟨[], 0⟩] } = totalB q1 := by unfold totalB; simp
      have h4 : totalB (changeQ (newBodyQ q1 b) p p (some q1.bodies.length)) = totalB (newBodyQ q1 b) := total_same rfl
      show totalB (changeQ _ _ _ _) ≤ _
      rw [h4]
      unfold newBodyQ
      omega
    · show totalB q1 ≤ _; omega
  · show totalB q1 ≤ _; omega
theorem total_append (q : Q) (p b : Bs) : totalB (appendQ q p b).2 ≤ totalB q + b.length := by
  have h1 := total_begin q (rightL p)
  unfold appendQ
  rcases hb : beginQ q (rightL p) with ⟨e, q1⟩
  rw [hb] at h1
  dsimp only at *
  split
  · split
    · show totalB q1 ≤ _; omega
    · split
      · rename_i k _ _
        have := total_extend q1 k b
        show totalB (extendQ _ _ _) ≤ _; omega
      · show totalB q1 ≤ _; omega
  · show totalB q1 ≤ _; omega
theorem total_rename (q : Q) (p t : Bs) : totalB (renameQ q p t).2 = totalB q := by
  have h1 := total_begin q (rightL p && rightL t && dirL p == dirL t)
  unfold renameQ
  rcases hb : beginQ q (rightL p && rightL t && dirL p == dirL t) with ⟨e, q1⟩
  rw [hb] at h1
  dsimp only at *
  split
  · split
    · exact h1
    · dsimp only
      split
      · exact h1
      · exact (total_same rfl).trans h1
  · exact h1
theorem total_remove (q : Q) (p : Bs) : totalB (removeQ q p).2 = totalB q := by
  have h1 := total_begin q (rightL p)
  unfold removeQ
  rcases hb : beginQ q (rightL p) with ⟨e, q1⟩
  rw [hb] at h1
  dsimp only at *
  split
  · split
    · exact h1
    · exact (total_same rfl).trans h1
  · exact h1
theorem total_sync (q : Q) (p : Bs) : totalB (syncQ q p).2 ≤ totalB q := by
  have h1 := total_begin q (rightL p)
  unfold syncQ
  rcases hb : beginQ q (rightL p) with ⟨e, q1⟩
  rw [hb] at h1
  dsimp only at *
  split
  · split
    · exact Nat.le_of_eq h1
    · rename_i k hk
      have := total_set q1 k ⟨(qbody q1 k).now, (qbody q1 k).now.length⟩ 0 (Nat.le_refl _) { q1 with bodies := q1.bodies.set k ⟨(qbody q1 k).now, (qbody q1 k).now.length⟩, loose := dropN q1.loose k } rfl
      rw [h1] at this
      exact this
  · exact Nat.le_of_eq h1
theorem total_syncDir (q : Q) (d : Bs) : totalB (syncDirQ q d).2 ≤ totalB q := by
  have h1 := total_begin q (d == [] || isPartL d)
  unfold syncDirQ
  rcases hb : beginQ q (d == [] || isPartL d) with ⟨e, q1⟩
  rw [hb] at h1
  dsimp only at *
  split
  · have := total_keepQ ((look q1.changes d).getD []) q1
    exact Nat.le_trans (Nat.le_of_eq (total_same rfl)) (Nat.le_trans this (Nat.le_of_eq h1))
  · exact Nat.le_of_eq h1
theorem total_stay (q : Q) (ks : List Int) (l : List Nat) : ∀ k, k ≤ l.length → totalB (stayAll q ks l k).1 ≤ totalB q := by
  intro k
  induction k with
  | zero => intro _; exact Nat.le_refl _
  | succ k ih =>
    intro hk
    rw [stayAll_succ _ _ _ _ (by omega)]
    refine Nat.le_trans ?_ (ih (by omega))
    exact total_set (stayAll q ks l k).1 l[k] ⟨_, _⟩ 0 (by show (List.take _ _).length ≤ _; rw [List.length_take]; omega) _ rfl
theorem total_dirs (s : Q × List Int) (l : List Bs) : ∀ k, k ≤ l.length → totalB (dirAll s l k).1 ≤ totalB s.1 := by
  intro k
  induction k with
  | zero => intro _; exact Nat.le_refl _
  | succ k ih =>
    intro hk
    rw [dirAll_succ _ _ _ (by omega)]
    exact Nat.le_trans (total_keepQ _ _) (ih (by omega))
theorem total_crash (q : Q) (ks : List Int) : totalB (crashQ q ks) ≤ totalB q := by
  have h1 := total_stay q ks (looseS q) _ (Nat.le_refl _)
  rw [← crashA_eq] at h1
  have h2 := total_dirs ({ (crashA q ks).1 with loose := [] }, (crashA q ks).2) (dirsS (crashA q ks).1) _ (Nat.le_refl _)
  rw [← crashB_eq] at h2
  have h3 : totalB ({ (crashA q ks).1 with loose := [] }, (crashA q ks).2).1 = totalB (crashA q ks).1 := total_same rfl
  have h4 : totalB (crashQ q ks) = totalB (crashB (crashA q ks)).1 := total_same rfl
  omega
end Go.Proofs.YtbodkjifpmencaaGreat
