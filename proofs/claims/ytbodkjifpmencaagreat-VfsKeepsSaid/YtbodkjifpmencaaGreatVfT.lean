/-
  A modest disk stays one through every call; what a crash leaves is one. No conditions.
-/
import Derived.Test.YtbodkjifpmencaaGreatVZB
namespace Go.Proofs.YtbodkjifpmencaaGreat

theorem Small.write {N : Nat} {q : Q} (h : Small N q) (p b : Bs) : Small (N + 3 + b.length) (writeQ q p b).2 := by
  have h1 := h.begin (rightL p)
  have h2 := begin_err q (rightL p)
  unfold writeQ
  rcases hb : beginQ q (rightL p) with ⟨e, q1⟩
  rw [hb] at h1 h2
  dsimp only at *
  split
  · rename_i he
    have hr : rightL p = true := by rcases h2 with h | h | h <;> simp_all
    have hp := right_len hr
    split
    · have := (h1.newBody b).change p p (some q1.bodies.length) hp hp (by have := dir_len p; omega) (fun k hk => by injection hk with hk; rw [newBody_len]; omega)
      exact this.mono (by omega)
    · exact h1.mono (by omega)
  · exact h1.mono (by omega)
theorem Small.append {N : Nat} {q : Q} (h : Small N q) (p b : Bs) : Small (N + 1 + b.length) (appendQ q p b).2 := by
  have h1 := h.begin (rightL p)
  unfold appendQ
  rcases hb : beginQ q (rightL p) with ⟨e, q1⟩
  rw [hb] at h1
  dsimp only at *
  split
  · split
    · exact h1.mono (by omega)
    · split
      · rename_i k hk _
        exact h1.extend (h1.name hk) b
      · exact h1.mono (by omega)
  · exact h1.mono (by omega)
theorem Small.rename {N : Nat} {q : Q} (h : Small N q) (p t : Bs) : Small (N + 1) (renameQ q p t).2 := by
  have h1 := h.begin (rightL p && rightL t && dirL p == dirL t)
  have h2 := begin_err q (rightL p && rightL t && dirL p == dirL t)
  unfold renameQ
  rcases hb : beginQ q (rightL p && rightL t && dirL p == dirL t) with ⟨e, q1⟩
  rw [hb] at h1 h2
  dsimp only at *
  split
  · rename_i he
    have hr : (rightL p && rightL t && dirL p == dirL t) = true := by rcases h2 with h | h | h <;> simp_all
    simp only [Bool.and_eq_true] at hr
    have hp := right_len hr.1.1
    have ht := right_len hr.1.2
    split
    · exact h1.mono (by omega)
    · rename_i k hk
      dsimp only
      split
      · exact h1.mono (by omega)
      · exact h1.change p t (some k) hp ht (by have := dir_len p; omega) (fun j hj => by injection hj with hj; subst hj; exact h1.name hk)
  · exact h1.mono (by omega)
theorem Small.remove {N : Nat} {q : Q} (h : Small N q) (p : Bs) : Small (N + 1) (removeQ q p).2 := by
  have h1 := h.begin (rightL p)
  have h2 := begin_err q (rightL p)
  unfold removeQ
  rcases hb : beginQ q (rightL p) with ⟨e, q1⟩
  rw [hb] at h1 h2
  dsimp only at *
  split
  · rename_i he
    have hr : rightL p = true := by rcases h2 with h | h | h <;> simp_all
    have hp := right_len hr
    split
    · exact h1.mono (by omega)
    · exact h1.change p p none hp hp (by have := dir_len p; omega) (fun k hk => by cases hk)
  · exact h1.mono (by omega)
theorem Small.sync {N : Nat} {q : Q} (h : Small N q) (p : Bs) : Small N (syncQ q p).2 := by
  have h1 := h.begin (rightL p)
  unfold syncQ
  rcases hb : beginQ q (rightL p) with ⟨e, q1⟩
  rw [hb] at h1
  dsimp only at *
  split
  · split
    · exact h1
    · rename_i k hk
      exact h1.setB (Nat.le_refl _) k ⟨(qbody q1 k).now, (qbody q1 k).now.length⟩ (h1.body k).1 (Nat.le_refl _) _ (Nat.le_trans (dropN_len _ _) h1.nl) (fun y hy => h1.kl y (mem_drop hy)) (dropN_nodup h1.dl)
  · exact h1
theorem keepQ_ok {P : QB → Prop} (h0 : P ⟨[], 0⟩) : ∀ (cs : List QC) {q : Q}, (∀ b ∈ q.bodies, P b) → ∀ b ∈ (keepQ q cs).bodies, P b := by
  intro cs
  unfold keepQ
  induction cs with
  | nil => exact fun h => h
  | cons c r ih =>
    intro q h
    rw [List.foldl_cons]
    refine ih (fun b hb => ?_)
    unfold keep1Q goneQ at hb
    cases hl : look q.kept c.to with
    | none => rw [hl] at hb; exact h b hb
    | some g =>
      rw [hl] at hb
      rcases mem_set_of hb with hb | rfl
      · exact h b hb
      · exact h0
theorem keepQ_dk : ∀ (cs : List QC) {q : Q}, (q.kept.map (·.1)).Nodup → ((keepQ q cs).kept.map (·.1)).Nodup := by
  intro cs
  unfold keepQ
  induction cs with
  | nil => exact fun h => h
  | cons c r ih =>
    intro q h
    rw [List.foldl_cons]
    refine ih ?_
    rw [keep1_kept]
    exact applyN_nodup h
theorem Small.syncDir {N : Nat} {q : Q} (h : Small N q) (d : Bs) : Small N (syncDirQ q d).2 := by
  have h1 := h.begin (d == [] || isPartL d)
  unfold syncDirQ
  rcases hb : beginQ q (d == [] || isPartL d) with ⟨e, q1⟩
  rw [hb] at h1
  dsimp only at *
  split
  · obtain ⟨s1, s2, s3, s4, s5, s6, s7⟩ := keepQ_same q1 ((look q1.changes d).getD [])
    have hok := chL_ok h1 d
    have hk := h1.keeps.take ((look q1.changes d).getD []) (fun c hc => ⟨(hok c hc).2.1, (hok c hc).2.2⟩) _ (Nat.le_refl _)
    rw [List.take_length] at hk
    have hlen := keepQ_len q1 ((look q1.changes d).getD [])
    have hsd := sum_drop q1.changes d
    have hdl := dropN_len q1.changes d
    have hnk := h1.nk
    have hnc := h1.nc
    refine ⟨?_, ?_, ?_, ?_, ?_, ?_, ?_, ?_, ?_, ?_, ?_, ?_, ?_, ?_, ?_, ?_, ?_, ?_⟩
    · show (keepQ q1 _).bodies.length ≤ N; rw [hlen]; exact h1.nb
    · show (keepQ q1 _).names.length ≤ N; rw [s1]; exact h1.nn
    · show (keepQ q1 _).kept.length + ((dropN (keepQ q1 _).changes d).map fun x => x.2.length).sum ≤ N
      rw [s2]; have := hk.len; omega
    · show (dropN (keepQ q1 _).changes d).length ≤ N; rw [s2]; omega
    · show (keepQ q1 _).loose.length ≤ N; rw [s3]; exact h1.nl
    · exact keepQ_ok (P := fun b => b.now.length ≤ N ∧ b.kept ≤ b.now.length) ⟨Nat.zero_le _, Nat.le_refl _⟩ _ h1.now
    · intro x hx
      show x.1.length ≤ 161 ∧ x.2 < (keepQ q1 _).bodies.length
      rw [hlen]; exact h1.kn x (by rw [← s1]; exact hx)
    · intro x hx; exact hk.ok x hx
    · intro x hx
      have hx' : x ∈ q1.changes := by rw [← s2]; exact mem_drop hx
      show x.1.length ≤ 161 ∧ ∀ c ∈ x.2, c.frm.length ≤ 161 ∧ c.to.length ≤ 161 ∧ ∀ k, c.body = some k → k < (keepQ q1 _).bodies.length
      rw [hlen]; exact h1.kc x hx'
    · intro x hx
      show x.1 < (keepQ q1 _).bodies.length
      rw [hlen]; exact h1.kl x (by rw [← s3]; exact hx)
    · show 0 ≤ (keepQ q1 _).room; rw [s4]; exact h1.r0
    · show (keepQ q1 _).room ≤ _; rw [s4]; exact h1.r1
    · show _ ≤ (keepQ q1 _).ahead; rw [s6]; exact h1.a0
    · show (keepQ q1 _).ahead ≤ _; rw [s6]; exact h1.a1
    · show ((keepQ q1 _).names.map (·.1)).Nodup; rw [s1]; exact h1.dn
    · exact keepQ_dk _ h1.dk
    · show ((dropN (keepQ q1 _).changes d).map (·.1)).Nodup; rw [s2]; exact dropN_nodup h1.dc
    · show ((keepQ q1 _).loose.map (·.1)).Nodup; rw [s3]; exact h1.dl
  · exact h1
theorem dirAll_ind {P : Q → Prop} (s : Q × List Int) (l : List Bs) (h0 : P s.1) (hs : ∀ q cs, P q → P (keepQ q cs)) : ∀ k, k ≤ l.length → P (dirAll s l k).1 := by
  intro k
  induction k with
  | zero => intro _; exact h0
  | succ k ih =>
    intro hk
    rw [dirAll_succ _ _ _ (by omega)]
    exact hs _ _ (ih (by omega))
theorem stayAll_room (q : Q) (ks : List Int) (l : List Nat) : ∀ k, k ≤ l.length → (stayAll q ks l k).1.room = q.room := by
  intro k
  induction k with
  | zero => intro _; rfl
  | succ k ih =>
    intro hk
    rw [stayAll_succ _ _ _ _ (by omega)]
    exact ih (by omega)
theorem Small.crash {N : Nat} {q : Q} (h : Small N q) (ks : List Int) : Small N (crashQ q ks) := by
  have hA := stayAll_inv h ks (looseS q) _ (Nat.le_refl _)
  have hRoom := stayAll_room q ks (looseS q) _ (Nat.le_refl _)
  rw [← crashA_eq] at hA hRoom
  obtain ⟨s, hs⟩ : ∃ s, crashA q ks = s := ⟨_, rfl⟩
  rw [hs] at hA hRoom
  have hS1 : Small N { s.1 with loose := [] } := by
    have h := hA.small
    exact ⟨h.nb, h.nn, h.nk, h.nc, Nat.zero_le _, h.now, h.kn, h.kk, h.kc, (fun x hx => by cases hx), h.r0, h.r1, h.a0, h.a1, h.dn, h.dk, h.dc, List.nodup_nil⟩
  have hd : dirsS s.1 = dirsS { s.1 with loose := [] } := rfl
  have hB := dirAll_inv hS1 s.2 (dirsS s.1) _ (Nat.le_refl _)
  have hok := dirAll_ind (P := fun q => ∀ b ∈ q.bodies, b.now.length ≤ N ∧ b.kept ≤ b.now.length) ({ s.1 with loose := [] }, s.2) (dirsS s.1) hS1.now (fun q cs h => keepQ_ok (P := fun b => b.now.length ≤ N ∧ b.kept ≤ b.now.length) ⟨Nat.zero_le _, Nat.le_refl _⟩ cs h) _ (Nat.le_refl _)
  have hdk := dirAll_ind (P := fun q => (q.kept.map (·.1)).Nodup) ({ s.1 with loose := [] }, s.2) (dirsS s.1) hS1.dk (fun q cs h => keepQ_dk cs h) _ (Nat.le_refl _)
  have hro := dirAll_ind (P := fun x => x.room = s.1.room) ({ s.1 with loose := [] }, s.2) (dirsS s.1) rfl (fun q cs h => (keepQ_same q cs).2.2.2.1.trans h) _ (Nat.le_refl _)
  rw [← crashB_eq] at hB hok hdk hro
  have hlen : (crashB s).1.kept.length ≤ N := by
    have h1 := hB.keeps.len
    rw [List.take_length] at h1
    have h3 := lens_all (dirsS_perm { s.1 with loose := [] }) hS1.dc
    rw [← hd] at h3
    have h4 := hS1.nk
    omega
  unfold crashQ
  rw [hs]
  have hnb := hB.len
  have hlo := hB.loose
  refine ⟨?_, hlen, ?_, Nat.zero_le _, ?_, hok, hB.keeps.ok, hB.keeps.ok, (fun x hx => by cases hx), ?_, ?_, ?_, ?_, ?_, hdk, hdk, List.nodup_nil, ?_⟩
  · show (crashB s).1.bodies.length ≤ N; rw [hnb]; exact hS1.nb
  · show (crashB s).1.kept.length + 0 ≤ N; omega
  · show (crashB s).1.loose.length ≤ N; rw [hlo]; exact Nat.zero_le _
  · intro x hx
    have : x ∈ (crashB s).1.loose := hx
    rw [hlo] at this; cases this
  · show 0 ≤ (crashB s).1.room; rw [hro]; exact hS1.r0
  · show (crashB s).1.room ≤ _; rw [hro]; exact hS1.r1
  · show _ ≤ (0 : Int); decide
  · show (0 : Int) ≤ _; decide
  · show ((crashB s).1.loose.map (·.1)).Nodup; rw [hlo]; exact List.nodup_nil
end Go.Proofs.YtbodkjifpmencaaGreat
