/-
  Of the proof that disks answer every script as the document says: the parts VfT VfJ VfK VfL VZC VZD VOpen VZH. No conditions.
-/
import Derived.Test.YtbodkjifpmencaaGreatY12
import Derived.Laws.IdiomStrings
import Derived.Laws.BytesArg
import Derived.Laws.MakeOwn
import Derived.Lib.SlBytesConst
import Derived.Test.YtbodkjifpmencaaGreatRows
import Derived.ProofKit
import Derived.OpenShut
import Derived.ChangeSlices
import Derived.SliceStrings
import Derived.Carry
import Derived.LaidMore
import Derived.Lay
namespace Go.Proofs.YtbodkjifpmencaaGreat

theorem Small.write {N : Nat} {q : Q} (h : Small N q) (p b : Bs) : Small (N + 3 + b.length) (writeQ q p b).2 := by
  have h1 := h.begin (rightL p)
  have h2 := begin_err q (rightL p)
  unfold writeQ
  rcases hb : beginQ q (rightL p) with ⟨e, q1⟩
  rw [hb] at h1 h2
  dsimp only at *
  split
  · rename_i he
    have hr : rightL p = true := by rcases h2 with h | h | h <;> simp_all
    have hp := right_len hr
    split
    · have := (h1.newBody b).change p p (some q1.bodies.length) hp hp (by have := dir_len p; omega) (fun k hk => by injection hk with hk; rw [newBody_len]; omega)
      exact this.mono (by omega)
    · exact h1.mono (by omega)
  · exact h1.mono (by omega)
theorem Small.append {N : Nat} {q : Q} (h : Small N q) (p b : Bs) : Small (N + 1 + b.length) (appendQ q p b).2 := by
  have h1 := h.begin (rightL p)
  unfold appendQ
  rcases hb : beginQ q (rightL p) with ⟨e, q1⟩
  rw [hb] at h1
  dsimp only at *
  split
  · split
    · exact h1.mono (by omega)
    · split
      · rename_i k hk _
        exact h1.extend (h1.name hk) b
      · exact h1.mono (by omega)
  · exact h1.mono (by omega)
theorem Small.rename {N : Nat} {q : Q} (h : Small N q) (p t : Bs) : Small (N + 1) (renameQ q p t).2 := by
  have h1 := h.begin (rightL p && rightL t && dirL p == dirL t)
  have h2 := begin_err q (rightL p && rightL t && dirL p == dirL t)
  unfold renameQ
  rcases hb : beginQ q (rightL p && rightL t && dirL p == dirL t) with ⟨e, q1⟩
  rw [hb] at h1 h2
  dsimp only at *
  split
  · rename_i he
    have hr : (rightL p && rightL t && dirL p == dirL t) = true := by rcases h2 with h | h | h <;> simp_all
    simp only [Bool.and_eq_true] at hr
    have hp := right_len hr.1.1
    have ht := right_len hr.1.2
    split
    · exact h1.mono (by omega)
    · rename_i k hk
      dsimp only
      split
      · exact h1.mono (by omega)
      · exact h1.change p t (some k) hp ht (by have := dir_len p; omega) (fun j hj => by injection hj with hj; subst hj; exact h1.name hk)
  · exact h1.mono (by omega)
theorem Small.remove {N : Nat} {q : Q} (h : Small N q) (p : Bs) : Small (N + 1) (removeQ q p).2 := by
  have h1 := h.begin (rightL p)
  have h2 := begin_err q (rightL p)
  unfold removeQ
  rcases hb : beginQ q (rightL p) with ⟨e, q1⟩
  rw [hb] at h1 h2
  dsimp only at *
  split
  · rename_i he
    have hr : rightL p = true := by rcases h2 with h | h | h <;> simp_all
    have hp := right_len hr
    split
    · exact h1.mono (by omega)
    · exact h1.change p p none hp hp (by have := dir_len p; omega) (fun k hk => by cases hk)
  · exact h1.mono (by omega)
theorem Small.sync {N : Nat} {q : Q} (h : Small N q) (p : Bs) : Small N (syncQ q p).2 := by
  have h1 := h.begin (rightL p)
  unfold syncQ
  rcases hb : beginQ q (rightL p) with ⟨e, q1⟩
  rw [hb] at h1
  dsimp only at *
  split
  · split
    · exact h1
    · rename_i k hk
      exact h1.setB (Nat.le_refl _) k ⟨(qbody q1 k).now, (qbody q1 k).now.length⟩ (h1.body k).1 (Nat.le_refl _) _ (Nat.le_trans (dropN_len _ _) h1.nl) (fun y hy => h1.kl y (mem_drop hy)) (dropN_nodup h1.dl)
  · exact h1
theorem keepQ_ok {P : QB → Prop} (h0 : P ⟨[], 0⟩) : ∀ (cs : List QC) {q : Q}, (∀ b ∈ q.bodies, P b) → ∀ b ∈ (keepQ q cs).bodies, P b := by
  intro cs
  unfold keepQ
  induction cs with
  | nil => exact fun h => h
  | cons c r ih =>
    intro q h
    rw [List.foldl_cons]
    refine ih (fun b hb => ?_)
    unfold keep1Q goneQ at hb
    cases hl : look q.kept c.to with
    | none => rw [hl] at hb; exact h b hb
    | some g =>
      rw [hl] at hb
      rcases mem_set_of hb with hb | rfl
      · exact h b hb
      · exact h0
theorem keepQ_dk : ∀ (cs : List QC) {q : Q}, (q.kept.map (·.1)).Nodup → ((keepQ q cs).kept.map (·.1)).Nodup := by
  intro cs
  unfold keepQ
  induction cs with
  | nil => exact fun h => h
  | cons c r ih =>
    intro q h
    rw [List.foldl_cons]
    refine ih ?_
    rw [keep1_kept]
    exact applyN_nodup h
theorem Small.syncDir {N : Nat} {q : Q} (h : Small N q) (d : Bs) : Small N (syncDirQ q d).2 := by
  have h1 := h.begin (d == [] || isPartL d)
  unfold syncDirQ
  rcases hb : beginQ q (d == [] || isPartL d) with ⟨e, q1⟩
  rw [hb] at h1
  dsimp only at *
  split
  · obtain ⟨s1, s2, s3, s4, s5, s6, s7⟩ := keepQ_same q1 ((look q1.changes d).getD [])
    have hok := chL_ok h1 d
    have hk := h1.keeps.take ((look q1.changes d).getD []) (fun c hc => ⟨(hok c hc).2.1, (hok c hc).2.2⟩) _ (Nat.le_refl _)
    rw [List.take_length] at hk
    have hlen := keepQ_len q1 ((look q1.changes d).getD [])
    have hsd := sum_drop q1.changes d
    have hdl := dropN_len q1.changes d
    have hnk := h1.nk
    have hnc := h1.nc
    refine ⟨?_, ?_, ?_, ?_, ?_, ?_, ?_, ?_, ?_, ?_, ?_, ?_, ?_, ?_, ?_, ?_, ?_, ?_⟩
    · show (keepQ q1 _).bodies.length ≤ N; rw [hlen]; exact h1.nb
    · show (keepQ q1 _).names.length ≤ N; rw [s1]; exact h1.nn
    · show (keepQ q1 _).kept.length + ((dropN (keepQ q1 _).changes d).map fun x => x.2.length).sum ≤ N
      rw [s2]; have := hk.len; omega
    · show (dropN (keepQ q1 _).changes d).length ≤ N; rw [s2]; omega
    · show (keepQ q1 _).loose.length ≤ N; rw [s3]; exact h1.nl
    · exact keepQ_ok (P := fun b => b.now.length ≤ N ∧ b.kept ≤ b.now.length) ⟨Nat.zero_le _, Nat.le_refl _⟩ _ h1.now
    · intro x hx
      show x.1.length ≤ 161 ∧ x.2 < (keepQ q1 _).bodies.length
      rw [hlen]; exact h1.kn x (by rw [← s1]; exact hx)
    · intro x hx; exact hk.ok x hx
    · intro x hx
      have hx' : x ∈ q1.changes := by rw [← s2]; exact mem_drop hx
      show x.1.length ≤ 161 ∧ ∀ c ∈ x.2, c.frm.length ≤ 161 ∧ c.to.length ≤ 161 ∧ ∀ k, c.body = some k → k < (keepQ q1 _).bodies.length
      rw [hlen]; exact h1.kc x hx'
    · intro x hx
      show x.1 < (keepQ q1 _).bodies.length
      rw [hlen]; exact h1.kl x (by rw [← s3]; exact hx)
    · show 0 ≤ (keepQ q1 _).room; rw [s4]; exact h1.r0
    · show (keepQ q1 _).room ≤ _; rw [s4]; exact h1.r1
    · show _ ≤ (keepQ q1 _).ahead; rw [s6]; exact h1.a0
    · show (keepQ q1 _).ahead ≤ _; rw [s6]; exact h1.a1
    · show ((keepQ q1 _).names.map (·.1)).Nodup; rw [s1]; exact h1.dn
    · exact keepQ_dk _ h1.dk
    · show ((dropN (keepQ q1 _).changes d).map (·.1)).Nodup; rw [s2]; exact dropN_nodup h1.dc
    · show ((keepQ q1 _).loose.map (·.1)).Nodup; rw [s3]; exact h1.dl
  · exact h1
theorem dirAll_ind {P : Q → Prop} (s : Q × List Int) (l : List Bs) (h0 : P s.1) (hs : ∀ q cs, P q → P (keepQ q cs)) : ∀ k, k ≤ l.length → P (dirAll s l k).1 := by
  intro k
  induction k with
  | zero => intro _; exact h0
  | succ k ih =>
    intro hk
    rw [dirAll_succ _ _ _ (by omega)]
    exact hs _ _ (ih (by omega))
theorem stayAll_room (q : Q) (ks : List Int) (l : List Nat) : ∀ k, k ≤ l.length → (stayAll q ks l k).1.room = q.room := by
  intro k
  induction k with
  | zero => intro _; rfl
  | succ k ih =>
    intro hk
    rw [stayAll_succ _ _ _ _ (by omega)]
    exact ih (by omega)
theorem Small.crash {N : Nat} {q : Q} (h : Small N q) (ks : List Int) : Small N (crashQ q ks) := by
  have hA := stayAll_inv h ks (looseS q) _ (Nat.le_refl _)
  have hRoom := stayAll_room q ks (looseS q) _ (Nat.le_refl _)
  rw [← crashA_eq] at hA hRoom
  obtain ⟨s, hs⟩ : ∃ s, crashA q ks = s := ⟨_, rfl⟩
  rw [hs] at hA hRoom
  have hS1 : Small N { s.1 with loose := [] } := by
    have h := hA.small
    exact ⟨h.nb, h.nn, h.nk, h.nc, Nat.zero_le _, h.now, h.kn, h.kk, h.kc, (fun x hx => by cases hx), h.r0, h.r1, h.a0, h.a1, h.dn, h.dk, h.dc, List.nodup_nil⟩
  have hd : dirsS s.1 = dirsS { s.1 with loose := [] } := rfl
  have hB := dirAll_inv hS1 s.2 (dirsS s.1) _ (Nat.le_refl _)
  have hok := dirAll_ind (P := fun q => ∀ b ∈ q.bodies, b.now.length ≤ N ∧ b.kept ≤ b.now.length) ({ s.1 with loose := [] }, s.2) (dirsS s.1) hS1.now (fun q cs h => keepQ_ok (P := fun b => b.now.length ≤ N ∧ b.kept ≤ b.now.length) ⟨Nat.zero_le _, Nat.le_refl _⟩ cs h) _ (Nat.le_refl _)
  have hdk := dirAll_ind (P := fun q => (q.kept.map (·.1)).Nodup) ({ s.1 with loose := [] }, s.2) (dirsS s.1) hS1.dk (fun q cs h => keepQ_dk cs h) _ (Nat.le_refl _)
  have hro := dirAll_ind (P := fun x => x.room = s.1.room) ({ s.1 with loose := [] }, s.2) (dirsS s.1) rfl (fun q cs h => (keepQ_same q cs).2.2.2.1.trans h) _ (Nat.le_refl _)
  rw [← crashB_eq] at hB hok hdk hro
  have hlen : (crashB s).1.kept.length ≤ N := by
    have h1 := hB.keeps.len
    rw [List.take_length] at h1
    have h3 := lens_all (dirsS_perm { s.1 with loose := [] }) hS1.dc
    rw [← hd] at h3
    have h4 := hS1.nk
    omega
  unfold crashQ
  rw [hs]
  have hnb := hB.len
  have hlo := hB.loose
  refine ⟨?_, hlen, ?_, Nat.zero_le _, ?_, hok, hB.keeps.ok, hB.keeps.ok, (fun x hx => by cases hx), ?_, ?_, ?_, ?_, ?_, hdk, hdk, List.nodup_nil, ?_⟩
  · show (crashB s).1.bodies.length ≤ N; rw [hnb]; exact hS1.nb
  · show (crashB s).1.kept.length + 0 ≤ N; omega
  · show (crashB s).1.loose.length ≤ N; rw [hlo]; exact Nat.zero_le _
  · intro x hx
    have : x ∈ (crashB s).1.loose := hx
    rw [hlo] at this; cases this
  · show 0 ≤ (crashB s).1.room; rw [hro]; exact hS1.r0
  · show (crashB s).1.room ≤ _; rw [hro]; exact hS1.r1
  · show _ ≤ (0 : Int); decide
  · show (0 : Int) ≤ _; decide
  · show ((crashB s).1.loose.map (·.1)).Nodup; rw [hlo]; exact List.nodup_nil
end Go.Proofs.YtbodkjifpmencaaGreat
namespace Go.Proofs.YtbodkjifpmencaaGreat

/-! ### Sums -/
theorem sum_sub (f : Nat → Nat) : ∀ (l m : List Nat), l.Nodup → (∀ x ∈ l, x ∈ m) → (l.map f).sum ≤ (m.map f).sum
  | [], m, _, _ => by simp
  | x :: r, m, hd, hs => by
    rw [List.nodup_cons] at hd
    have hx : x ∈ m := hs x (by simp)
    have h := sum_sub f r (m.erase x) hd.2 (fun y hy => (List.mem_erase_of_ne (fun e => hd.1 (by rw [← e]; exact hy))).2 (hs y (by simp [hy])))
    have hp := ((List.perm_cons_erase hx).map f).sum_nat
    simp only [List.map_cons, List.sum_cons] at hp ⊢
    omega
def totalB (q : Q) : Nat := (q.bodies.map fun b => b.now.length).sum
theorem total_range (q : Q) : totalB q = ((List.range q.bodies.length).map fun k => (qbody q k).now.length).sum := by
  unfold totalB
  congr 1
  refine List.ext_getElem (by simp) (fun i h1 h2 => ?_)
  simp only [List.getElem_map, List.getElem_range]
  unfold qbody
  rw [List.getD_eq_getElem?_getD, List.getElem?_eq_getElem (by simpa using h1)]
  rfl
theorem used_total {q : Q} (hd : (q.names.map (·.2)).Nodup) (hl : ∀ x ∈ q.names, x.2 < q.bodies.length) : usedQ q ≤ totalB q := by
  have h := sum_sub (fun k => (qbody q k).now.length) (q.names.map (·.2)) (List.range q.bodies.length) hd (fun x hx => by
    obtain ⟨y, hy, rfl⟩ := List.mem_map.1 hx
    exact List.mem_range.2 (hl y hy))
  rw [List.map_map] at h
  rw [total_range]
  exact h
/-! ### A directory's names -/
def inD (d : Bs) (l : Nm) : Nm := l.filter fun x => decide (dirL x.1 = d)
def appAll (cs : List QC) (l : Nm) : Nm := cs.foldl (fun l c => applyN c l) l
theorem appAll_snoc (cs : List QC) (c : QC) (l : Nm) : appAll (cs ++ [c]) l = applyN c (appAll cs l) := by simp [appAll, List.foldl_append]
theorem keepQ_kept (q : Q) (cs : List QC) : (keepQ q cs).kept = appAll cs q.kept := by
  unfold keepQ appAll
  induction cs generalizing q with
  | nil => rfl
  | cons c r ih => rw [List.foldl_cons, List.foldl_cons, ih, keep1_kept]
theorem inD_drop (d : Bs) (l : Nm) (p : Bs) : inD d (dropN l p) = dropN (inD d l) p := by
  unfold inD dropN
  rw [List.filter_filter, List.filter_filter]
  refine List.filter_congr (fun x _ => Bool.and_comm _ _)
theorem drop_far (d : Bs) (l : Nm) (p : Bs) (h : dirL p ≠ d) : dropN (inD d l) p = inD d l := by
  unfold dropN
  rw [List.filter_eq_self]
  intro x hx
  unfold inD at hx
  have := (List.mem_filter.1 hx).2
  simp at this ⊢
  intro e
  exact h (e ▸ this)
theorem inD_put (d : Bs) (l : Nm) (p : Bs) (k : Nat) : inD d (putN l p k) = dropN (inD d l) p ++ (if dirL p = d then [(p, k)] else []) := by
  unfold putN
  rw [show inD d (dropN l p ++ [(p, k)]) = inD d (dropN l p) ++ inD d [(p, k)] from List.filter_append .., inD_drop]
  congr 1
  unfold inD
  by_cases h : dirL p = d <;> simp [h]
theorem inD_apply (d : Bs) (c : QC) (l : Nm) (_h : dirL c.frm = d) (h2 : dirL c.to = d) : inD d (applyN c l) = applyN c (inD d l) := by
  unfold applyN
  cases c.body with
  | none => exact inD_drop d l c.frm
  | some k =>
    dsimp only
    rw [inD_put, inD_drop, if_pos h2]
    rfl
theorem inD_far (d : Bs) (c : QC) (l : Nm) (h : dirL c.frm ≠ d) (h2 : dirL c.to ≠ d) : inD d (applyN c l) = inD d l := by
  unfold applyN
  cases c.body with
  | none => dsimp only; rw [inD_drop, drop_far d l _ h]
  | some k =>
    dsimp only
    rw [inD_put, inD_drop, if_neg h2, List.append_nil, drop_far d l _ h, drop_far d l _ h2]
theorem inD_all (d : Bs) (cs : List QC) (h : ∀ c ∈ cs, dirL c.frm = d ∧ dirL c.to = d) : ∀ l : Nm, inD d (appAll cs l) = appAll cs (inD d l) := by
  induction cs with
  | nil => intro l; rfl
  | cons c r ih =>
    intro l
    show inD d (appAll r (applyN c l)) = appAll r (applyN c (inD d l))
    rw [ih (fun c' hc => h c' (by simp [hc])), inD_apply d c l (h c (by simp)).1 (h c (by simp)).2]
theorem inD_allfar (d e : Bs) (hne : e ≠ d) (cs : List QC) (h : ∀ c ∈ cs, dirL c.frm = e ∧ dirL c.to = e) : ∀ l : Nm, inD d (appAll cs l) = inD d l := by
  induction cs with
  | nil => intro l; rfl
  | cons c r ih =>
    intro l
    have hc := h c (by simp)
    show inD d (appAll r (applyN c l)) = inD d l
    rw [ih (fun c' hc => h c' (by simp [hc])), inD_far d c l (by rw [hc.1]; exact hne) (by rw [hc.2]; exact hne)]
theorem mem_appAll : ∀ {cs : List QC} {l : Nm} {x : Bs × Nat}, x ∈ appAll cs l → x ∈ l ∨ ∃ c ∈ cs, x.1 = c.to ∧ c.body = some x.2
  | [], _, _, h => .inl h
  | c :: r, l, x, h => by
    rcases mem_appAll (cs := r) (l := applyN c l) h with h | ⟨c', hc, h⟩
    · rcases mem_applyN h with h | h
      · exact .inl h
      · exact .inr ⟨c, by simp, h⟩
    · exact .inr ⟨c', by simp [hc], h⟩
/-! ### Where each body is at home -/
structure Home (h : Nat → Bs) (q : Q) : Prop where
  kept : ∀ x ∈ q.kept, dirL x.1 = h x.2
  chg : ∀ x ∈ q.changes, ∀ c ∈ x.2, dirL c.frm = x.1 ∧ dirL c.to = x.1 ∧ ∀ k, c.body = some k → h k = x.1
  names : ∀ d, inD d q.names = appAll (chL q d) (inD d q.kept)
  inj : ∀ d n, n ≤ (chL q d).length → ((appAll ((chL q d).take n) (inD d q.kept)).map (·.2)).Nodup
theorem Home.chL {h : Nat → Bs} {q : Q} (H : Home h q) (d : Bs) : ∀ c ∈ chL q d, dirL c.frm = d ∧ dirL c.to = d ∧ ∀ k, c.body = some k → h k = d := by
  intro c hc
  unfold Go.Proofs.YtbodkjifpmencaaGreat.chL at hc
  cases hl : look q.changes d with
  | none => rw [hl] at hc; cases hc
  | some cs => rw [hl] at hc; exact H.chg _ (look_mem hl) c hc
theorem Home.name {h : Nat → Bs} {q : Q} (H : Home h q) {x : Bs × Nat} (hx : x ∈ q.names) : dirL x.1 = h x.2 := by
  have h1 : x ∈ inD (dirL x.1) q.names := List.mem_filter.2 ⟨hx, by simp⟩
  rw [H.names] at h1
  rcases mem_appAll h1 with h1 | ⟨c, hc, h1, h2⟩
  · exact H.kept x (List.mem_filter.1 h1).1
  · exact ((H.chL _ c hc).2.2 _ h2).symm
theorem nodup_of_home (h : Nat → Bs) : ∀ l : Nm, (∀ x ∈ l, dirL x.1 = h x.2) → (∀ d, ((inD d l).map (·.2)).Nodup) → (l.map (·.2)).Nodup
  | [], _, _ => List.nodup_nil
  | x :: r, hh, hd => by
    rw [List.map_cons, List.nodup_cons]
    refine ⟨fun hm => ?_, nodup_of_home h r (fun y hy => hh y (by simp [hy])) (fun d => ?_)⟩
    · obtain ⟨y, hy, he⟩ := List.mem_map.1 hm
      have hdir : dirL y.1 = dirL x.1 := by rw [hh y (by simp [hy]), hh x (by simp), he]
      have := hd (dirL x.1)
      unfold inD at this
      rw [List.filter_cons_of_pos (by simp), List.map_cons, List.nodup_cons] at this
      exact this.1 (List.mem_map.2 ⟨y, List.mem_filter.2 ⟨hy, by simp [hdir]⟩, he⟩)
    · have := hd d
      unfold inD at this ⊢
      by_cases hx : dirL x.1 = d
      · rw [List.filter_cons_of_pos (by simpa using hx), List.map_cons, List.nodup_cons] at this; exact this.2
      · rwa [List.filter_cons_of_neg (by simpa using hx)] at this
theorem Home.nodup {h : Nat → Bs} {q : Q} (H : Home h q) : (q.names.map (·.2)).Nodup :=
  nodup_of_home h q.names (fun _ hx => H.name hx) (fun d => by
    have := H.inj d _ (Nat.le_refl _)
    rw [List.take_length] at this
    rwa [H.names])
theorem Home.new (room : Int) : Home (fun _ => []) (qNew room) := ⟨(fun x hx => by cases hx), (fun x hx => by cases hx), (fun d => rfl), (fun d n _ => by
  have : appAll ((Go.Proofs.YtbodkjifpmencaaGreat.chL (qNew room) d).take n) (inD d (qNew room).kept) = [] := by simp [Go.Proofs.YtbodkjifpmencaaGreat.chL, qNew, look, appAll, inD]
  rw [this]; exact List.nodup_nil)⟩
theorem Home.same {h : Nat → Bs} {q q' : Q} (H : Home h q) (h1 : q'.names = q.names) (h2 : q'.kept = q.kept) (h3 : q'.changes = q.changes) : Home h q' := by
  have hc : ∀ d, Go.Proofs.YtbodkjifpmencaaGreat.chL q' d = Go.Proofs.YtbodkjifpmencaaGreat.chL q d := fun d => by unfold Go.Proofs.YtbodkjifpmencaaGreat.chL; rw [h3]
  refine ⟨by rw [h2]; exact H.kept, by rw [h3]; exact H.chg, fun d => by rw [h1, h2, hc]; exact H.names d, fun d n hn => ?_⟩
  rw [hc] at hn ⊢
  rw [h2]
  exact H.inj d n hn
theorem look_put_same {l : List (Bs × List QC)} {d : Bs} {v : List QC} : look (putN l d v) d = some v := by
  unfold look putN dropN
  rw [List.find?_append, List.find?_eq_none.2 (by intro x hx; have := (List.mem_filter.1 hx).2; simpa using this)]
  simp
theorem find_filter_far {l : List (Bs × List QC)} {d e : Bs} (h : e ≠ d) : (l.filter fun x => decide (x.1 ≠ d)).find? (fun x => decide (x.1 = e)) = l.find? (fun x => decide (x.1 = e)) := by
  rw [List.find?_filter]
  congr 1
  funext x
  by_cases hx : x.1 = e
  · simp [hx, h]
  · simp [hx]
theorem look_put_far {l : List (Bs × List QC)} {d e : Bs} {v : List QC} (h : e ≠ d) : look (putN l d v) e = look l e := by
  unfold look putN dropN
  rw [List.find?_append, find_filter_far h]
  simp [Ne.symm h]
theorem look_drop_far {l : List (Bs × List QC)} {d e : Bs} (h : e ≠ d) : look (dropN l d) e = look l e := by
  unfold look dropN
  rw [find_filter_far h]
theorem look_drop_same {l : List (Bs × List QC)} {d : Bs} : look (dropN l d) d = none := by
  unfold look dropN
  rw [List.find?_eq_none.2 (by intro x hx; have := (List.mem_filter.1 hx).2; simpa using this)]
  rfl
/-- A change of names. -/
theorem Home.change {h : Nat → Bs} {q : Q} (H : Home h q) (frm tgt : Bs) (o : Option Nat) (hd : dirL tgt = dirL frm) (ho : ∀ k, o = some k → h k = dirL frm) (hn : ((applyN ⟨frm, tgt, o⟩ (inD (dirL frm) q.names)).map (·.2)).Nodup) : Home h (changeQ q frm tgt o) := by
  have hs : Go.Proofs.YtbodkjifpmencaaGreat.chL (changeQ q frm tgt o) (dirL frm) = Go.Proofs.YtbodkjifpmencaaGreat.chL q (dirL frm) ++ [⟨frm, tgt, o⟩] := by
    unfold Go.Proofs.YtbodkjifpmencaaGreat.chL changeQ
    dsimp only
    rw [look_put_same]
    rfl
  have hf : ∀ e, e ≠ dirL frm → Go.Proofs.YtbodkjifpmencaaGreat.chL (changeQ q frm tgt o) e = Go.Proofs.YtbodkjifpmencaaGreat.chL q e := fun e he => by
    unfold Go.Proofs.YtbodkjifpmencaaGreat.chL changeQ
    dsimp only
    rw [look_put_far he]
  refine ⟨H.kept, ?_, fun d => ?_, fun d n hle => ?_⟩
  · intro x hx c hc
    rcases mem_put hx with hx | rfl
    · exact H.chg x hx c hc
    · rcases List.mem_append.1 hc with hc | hc
      · exact H.chL _ c hc
      · simp at hc; subst hc; exact ⟨rfl, hd, ho⟩
  · by_cases he : d = dirL frm
    · subst he
      rw [hs, appAll_snoc]
      show inD _ (applyN ⟨frm, tgt, o⟩ q.names) = applyN _ (appAll _ (inD _ q.kept))
      rw [inD_apply (dirL frm) ⟨frm, tgt, o⟩ q.names rfl hd, H.names]
    · rw [hf d he]
      show inD _ (applyN ⟨frm, tgt, o⟩ q.names) = appAll _ (inD _ q.kept)
      rw [inD_far d ⟨frm, tgt, o⟩ q.names (fun e => he e.symm) (fun e => he (e.symm.trans hd)), H.names]
  · by_cases he : d = dirL frm
    · subst he
      rw [hs] at hle ⊢
      show ((appAll _ (inD _ q.kept)).map (·.2)).Nodup
      rw [List.length_append, List.length_singleton] at hle
      by_cases hl : n ≤ (Go.Proofs.YtbodkjifpmencaaGreat.chL q (dirL frm)).length
      · rw [List.take_append_of_le_length hl]; exact H.inj _ n hl
      · rw [List.take_of_length_le (by rw [List.length_append, List.length_singleton]; omega), appAll_snoc, ← H.names]; exact hn
    · rw [hf d he] at hle ⊢
      exact H.inj d n hle
end Go.Proofs.YtbodkjifpmencaaGreat
namespace Go.Proofs.YtbodkjifpmencaaGreat

theorem begin_keeps (q : Q) (r : Bool) : (beginQ q r).2.names = q.names ∧ (beginQ q r).2.kept = q.kept ∧ (beginQ q r).2.changes = q.changes ∧ (beginQ q r).2.bodies = q.bodies := by
  rw [begin_snd]
  cases r
  · exact ⟨rfl, rfl, rfl, rfl⟩
  · rw [if_pos rfl]
    unfold strikeQ
    split
    · split <;> exact ⟨rfl, rfl, rfl, rfl⟩
    · exact ⟨rfl, rfl, rfl, rfl⟩
theorem Home.begin {h : Nat → Bs} {q : Q} (H : Home h q) (r : Bool) : Home h (beginQ q r).2 := by
  obtain ⟨h1, h2, h3, _⟩ := begin_keeps q r
  exact H.same h1 h2 h3
theorem nodup_snoc_v {l : Nm} {p : Bs} {k : Nat} (h : (l.map (·.2)).Nodup) (hk : ∀ x ∈ l, x.2 ≠ k) : ((l ++ [(p, k)]).map (·.2)).Nodup := by
  rw [List.map_append, List.nodup_append]
  refine ⟨h, by simp, ?_⟩
  intro a ha b hb
  simp at hb
  subst hb
  obtain ⟨x, hx, rfl⟩ := List.mem_map.1 ha
  exact hk x hx
theorem drop_nodup_v {l : Nm} (h : (l.map (·.2)).Nodup) (p : Bs) : ((dropN l p).map (·.2)).Nodup := h.sublist (List.filter_sublist.map _)
theorem snd_inj : ∀ {l : Nm}, (l.map (·.2)).Nodup → ∀ {x y : Bs × Nat}, x ∈ l → y ∈ l → x.2 = y.2 → x = y
  | z :: r, h, x, y, hx, hy, he => by
    rw [List.map_cons, List.nodup_cons] at h
    rcases List.mem_cons.1 hx with h1 | h1
    · rcases List.mem_cons.1 hy with h2 | h2
      · rw [h1, h2]
      · exact absurd (List.mem_map.2 ⟨y, h2, by rw [← he, h1]⟩) h.1
    · rcases List.mem_cons.1 hy with h2 | h2
      · exact absurd (List.mem_map.2 ⟨x, h1, by rw [he, h2]⟩) h.1
      · exact snd_inj h.2 h1 h2 he
theorem Home.inDnames {h : Nat → Bs} {q : Q} (H : Home h q) (d : Bs) : ((inD d q.names).map (·.2)).Nodup := by
  have := H.inj d _ (Nat.le_refl _)
  rw [List.take_length] at this
  rwa [H.names]
theorem Home.congr {h h' : Nat → Bs} {q : Q} (H : Home h q) {N : Nat} (hS : Small N q) (he : ∀ k, k < q.bodies.length → h k = h' k) : Home h' q := by
  refine ⟨fun x hx => (H.kept x hx).trans (he _ (hS.kk x hx).2), fun x hx c hc => ?_, H.names, H.inj⟩
  have := H.chg x hx c hc
  exact ⟨this.1, this.2.1, fun k hk => by rw [← he k (((hS.kc x hx).2 c hc).2.2 k hk)]; exact this.2.2 k hk⟩
theorem extend_same (q : Q) (k : Nat) (b : Bs) : (extendQ q k b).names = q.names ∧ (extendQ q k b).kept = q.kept ∧ (extendQ q k b).changes = q.changes := by
  unfold extendQ; split <;> exact ⟨rfl, rfl, rfl⟩
theorem Home.write {h : Nat → Bs} {q : Q} (H : Home h q) {N : Nat} (hS : Small N q) (p b : Bs) : ∃ h', Home h' (writeQ q p b).2 := by
  have h1 := H.begin (rightL p)
  have s1 := hS.begin (rightL p)
  unfold writeQ
  rcases hb : beginQ q (rightL p) with ⟨e, q1⟩
  rw [hb] at h1 s1
  dsimp only at *
  split
  · split
    · obtain ⟨n1, n2, n3⟩ := extend_same { q1 with bodies := q1.bodies ++ [⟨[], 0⟩] } q1.bodies.length b
      refine ⟨upd h q1.bodies.length (dirL p), ?_⟩
      have H2 : Home (upd h q1.bodies.length (dirL p)) q1 := h1.congr s1 (fun k hk => (upd_ne h _ (by omega)).symm)
      have H3 : Home (upd h q1.bodies.length (dirL p)) (newBodyQ q1 b) := H2.same n1 n2 n3
      refine H3.change p p (some q1.bodies.length) rfl (fun k hk => by injection hk with hk; rw [← hk, upd_same]) ?_
      have hnm : (newBodyQ q1 b).names = q1.names := n1
      rw [hnm]
      show ((dropN (dropN (inD (dirL p) q1.names) p) p ++ [(p, q1.bodies.length)]).map (·.2)).Nodup
      refine nodup_snoc_v (drop_nodup_v (drop_nodup_v (H2.inDnames _) _) _) (fun x hx => ?_)
      have hx2 : x ∈ q1.names := (List.mem_filter.1 (mem_drop (mem_drop hx))).1
      have := (s1.kn x hx2).2
      omega
    · exact ⟨h, h1⟩
  · exact ⟨h, h1⟩
theorem Home.append {h : Nat → Bs} {q : Q} (H : Home h q) (p b : Bs) : Home h (appendQ q p b).2 := by
  have h1 := H.begin (rightL p)
  unfold appendQ
  rcases hb : beginQ q (rightL p) with ⟨e, q1⟩
  rw [hb] at h1
  dsimp only at *
  split
  · split
    · exact h1
    · split
      · obtain ⟨n1, n2, n3⟩ := extend_same q1 _ b
        exact h1.same n1 n2 n3
      · exact h1
  · exact h1
theorem Home.sync {h : Nat → Bs} {q : Q} (H : Home h q) (p : Bs) : Home h (syncQ q p).2 := by
  have h1 := H.begin (rightL p)
  unfold syncQ
  rcases hb : beginQ q (rightL p) with ⟨e, q1⟩
  rw [hb] at h1
  dsimp only at *
  split
  · split
    · exact h1
    · exact h1.same rfl rfl rfl
  · exact h1
theorem Home.remove {h : Nat → Bs} {q : Q} (H : Home h q) (p : Bs) : Home h (removeQ q p).2 := by
  have h1 := H.begin (rightL p)
  unfold removeQ
  rcases hb : beginQ q (rightL p) with ⟨e, q1⟩
  rw [hb] at h1
  dsimp only at *
  split
  · split
    · exact h1
    · exact h1.change p p none rfl (fun k hk => by cases hk) (drop_nodup_v (h1.inDnames _) _)
  · exact h1
theorem Home.rename {h : Nat → Bs} {q : Q} (H : Home h q) (p t : Bs) : Home h (renameQ q p t).2 := by
  have h1 := H.begin (rightL p && rightL t && dirL p == dirL t)
  have h2 := begin_err q (rightL p && rightL t && dirL p == dirL t)
  unfold renameQ
  rcases hb : beginQ q (rightL p && rightL t && dirL p == dirL t) with ⟨e, q1⟩
  rw [hb] at h1 h2
  dsimp only at *
  split
  · have hr : (rightL p && rightL t && dirL p == dirL t) = true := by rcases h2 with h | h | h <;> simp_all
    simp only [Bool.and_eq_true, beq_iff_eq] at hr
    split
    · exact h1
    · rename_i k hk
      dsimp only
      split
      · exact h1
      · refine h1.change p t (some k) hr.2.symm (fun j hj => by injection hj with hj; rw [← hj]; exact (h1.name (look_mem hk)).symm) ?_
        show ((dropN (dropN (inD (dirL p) q1.names) p) t ++ [(t, k)]).map (·.2)).Nodup
        refine nodup_snoc_v (drop_nodup_v (drop_nodup_v (h1.inDnames _) _) _) (fun x hx he => ?_)
        have hx1 := mem_drop hx
        have hx2 : x ∈ inD (dirL p) q1.names := mem_drop hx1
        have hp : (p, k) ∈ inD (dirL p) q1.names := List.mem_filter.2 ⟨look_mem hk, by simp⟩
        have := snd_inj (h1.inDnames _) hx2 hp he
        subst this
        have := (List.mem_filter.1 hx1).2
        simp at this
  · exact h1
/-- What holds while directories are kept one by one. -/
theorem Home.keptOf {h : Nat → Bs} {q : Q} (H : Home h q) (cs : List QC) (hc : ∀ c ∈ cs, ∀ k, c.body = some k → h k = dirL c.to) {l : Nm} (hl : ∀ x ∈ l, dirL x.1 = h x.2) : ∀ x ∈ appAll cs l, dirL x.1 = h x.2 := by
  have _ := H
  intro x hx
  rcases mem_appAll hx with hx | ⟨c, hm, h1, h2⟩
  · exact hl x hx
  · rw [h1, hc c hm _ h2]
theorem Home.syncDir {h : Nat → Bs} {q : Q} (H : Home h q) (d : Bs) : Home h (syncDirQ q d).2 := by
  have h1 := H.begin (d == [] || isPartL d)
  unfold syncDirQ
  rcases hb : beginQ q (d == [] || isPartL d) with ⟨e, q1⟩
  rw [hb] at h1
  dsimp only at *
  split
  · obtain ⟨s1, s2, _⟩ := keepQ_same q1 (Go.Proofs.YtbodkjifpmencaaGreat.chL q1 d)
    have hk := keepQ_kept q1 (Go.Proofs.YtbodkjifpmencaaGreat.chL q1 d)
    have hcs := h1.chL d
    change Home h { keepQ q1 (Go.Proofs.YtbodkjifpmencaaGreat.chL q1 d) with changes := dropN (keepQ q1 (Go.Proofs.YtbodkjifpmencaaGreat.chL q1 d)).changes d }
    have hc1 : Go.Proofs.YtbodkjifpmencaaGreat.chL { keepQ q1 (Go.Proofs.YtbodkjifpmencaaGreat.chL q1 d) with changes := dropN (keepQ q1 (Go.Proofs.YtbodkjifpmencaaGreat.chL q1 d)).changes d } d = [] := by
      show (look (dropN (keepQ q1 (Go.Proofs.YtbodkjifpmencaaGreat.chL q1 d)).changes d) d).getD [] = []
      rw [look_drop_same]; rfl
    have hc2 : ∀ e, e ≠ d → Go.Proofs.YtbodkjifpmencaaGreat.chL { keepQ q1 (Go.Proofs.YtbodkjifpmencaaGreat.chL q1 d) with changes := dropN (keepQ q1 (Go.Proofs.YtbodkjifpmencaaGreat.chL q1 d)).changes d } e = Go.Proofs.YtbodkjifpmencaaGreat.chL q1 e := fun e he => by
      show (look (dropN (keepQ q1 (Go.Proofs.YtbodkjifpmencaaGreat.chL q1 d)).changes d) e).getD [] = (look q1.changes e).getD []
      rw [look_drop_far he, s2]
    have hd1 : inD d (keepQ q1 (Go.Proofs.YtbodkjifpmencaaGreat.chL q1 d)).kept = inD d q1.names := by
      rw [hk, inD_all d _ (fun c hc => ⟨(hcs c hc).1, (hcs c hc).2.1⟩), h1.names]
    have hd2 : ∀ e, e ≠ d → inD e (keepQ q1 (Go.Proofs.YtbodkjifpmencaaGreat.chL q1 d)).kept = inD e q1.kept := fun e he => by
      rw [hk, inD_allfar e d (Ne.symm he) _ (fun c hc => ⟨(hcs c hc).1, (hcs c hc).2.1⟩)]
    refine ⟨?_, ?_, fun e => ?_, fun e n hn => ?_⟩
    · show ∀ x ∈ (keepQ q1 _).kept, _
      rw [hk]
      exact h1.keptOf _ (fun c hc k hk => by rw [(hcs c hc).2.1]; exact (hcs c hc).2.2 k hk) h1.kept
    · intro x hx
      have hx' : x ∈ dropN (keepQ q1 (Go.Proofs.YtbodkjifpmencaaGreat.chL q1 d)).changes d := hx
      rw [s2] at hx'
      exact h1.chg x (mem_drop hx')
    · by_cases he : e = d
      · subst he
        rw [hc1]
        show inD e (keepQ q1 _).names = inD e (keepQ q1 _).kept
        rw [hd1, s1]
      · rw [hc2 e he]
        show inD e (keepQ q1 _).names = appAll _ (inD e (keepQ q1 _).kept)
        rw [hd2 e he, s1, h1.names]
    · by_cases he : e = d
      · subst he
        rw [hc1] at hn ⊢
        show ((appAll _ (inD e (keepQ q1 _).kept)).map (·.2)).Nodup
        rw [hd1, List.take_nil]
        exact h1.inDnames e
      · rw [hc2 e he] at hn ⊢
        show ((appAll _ (inD e (keepQ q1 _).kept)).map (·.2)).Nodup
        rw [hd2 e he]
        exact h1.inj e n hn
  · exact h1
end Go.Proofs.YtbodkjifpmencaaGreat
namespace Go.Proofs.YtbodkjifpmencaaGreat

theorem stayAll_names (q : Q) (ks : List Int) (l : List Nat) : ∀ k, k ≤ l.length → (stayAll q ks l k).1.names = q.names := by
  intro k
  induction k with
  | zero => intro _; rfl
  | succ k ih =>
    intro hk
    rw [stayAll_succ _ _ _ _ (by omega)]
    exact ih (by omega)
structure CrashInv (h : Nat → Bs) (q : Q) (l : List Bs) (k : Nat) (s : Q × List Int) : Prop where
  changes : s.1.changes = q.changes
  kept : ∀ x ∈ s.1.kept, dirL x.1 = h x.2
  part : ∀ d, ∃ n, n ≤ (chL q d).length ∧ inD d s.1.kept = appAll ((chL q d).take n) (inD d q.kept) ∧ (d ∉ l.take k → n = 0)
theorem crash_inv {h : Nat → Bs} {q : Q} (H : Home h q) (ks : List Int) (l : List Bs) (hl : l.Nodup) : ∀ k, k ≤ l.length → CrashInv h q l k (dirAll (q, ks) l k) := by
  intro k
  induction k with
  | zero => intro _; exact ⟨rfl, H.kept, fun d => ⟨0, Nat.zero_le _, rfl, fun _ => rfl⟩⟩
  | succ k ih =>
    intro hk
    have I := ih (by omega)
    rw [dirAll_succ _ _ _ (by omega)]
    obtain ⟨s, hs⟩ : ∃ s, dirAll (q, ks) l k = s := ⟨_, rfl⟩
    rw [hs] at I ⊢
    obtain ⟨d0, hd0⟩ : ∃ d, l[k] = d := ⟨_, rfl⟩
    rw [hd0]
    have hcs : (look s.1.changes d0).getD [] = chL q d0 := by rw [I.changes]; rfl
    obtain ⟨m, hm⟩ : ∃ m, (nextQ s.2 (chL q d0).length).1 = m := ⟨_, rfl⟩
    have hml : m ≤ (chL q d0).length := by rw [← hm]; exact next_le _ _
    have hq : (keepDir1Q s d0).1 = keepQ s.1 ((chL q d0).take m) := by
      show keepQ s.1 (((look s.1.changes d0).getD []).take (nextQ s.2 ((look s.1.changes d0).getD []).length).1) = _
      rw [hcs, hm]
    have hk1 : (keepDir1Q s d0).1.kept = appAll ((chL q d0).take m) s.1.kept := by rw [hq, keepQ_kept]
    have hch := H.chL d0
    have hct : ∀ c ∈ (chL q d0).take m, dirL c.frm = d0 ∧ dirL c.to = d0 := fun c hc => ⟨(hch c (List.mem_of_mem_take hc)).1, (hch c (List.mem_of_mem_take hc)).2.1⟩
    refine ⟨by rw [hq]; exact (keepQ_same s.1 _).2.1.trans I.changes, ?_, fun d => ?_⟩
    · rw [hk1]
      exact H.keptOf _ (fun c hc j hj => by have := hch c (List.mem_of_mem_take hc); rw [this.2.1]; exact this.2.2 j hj) I.kept
    · obtain ⟨n, hn, hp, hz⟩ := I.part d
      by_cases he : d = d0
      · subst he
        have hnot : d ∉ l.take k := by
          intro hmem
          have h2 := hl
          rw [← List.take_append_drop k l, List.nodup_append] at h2
          exact h2.2.2 d hmem l[k] (by rw [List.drop_eq_getElem_cons (by omega)]; exact List.mem_cons_self ..) hd0.symm
        have := hz hnot
        subst this
        refine ⟨m, hml, ?_, fun hx => absurd (show d ∈ l.take (k + 1) by rw [List.take_succ_eq_append_getElem (by omega), hd0]; exact List.mem_append_right _ (List.mem_singleton.2 rfl)) hx⟩
        rw [hk1, inD_all d _ hct, hp]
        rfl
      · refine ⟨n, hn, ?_, fun hx => hz (fun hmem => hx (by rw [List.take_succ_eq_append_getElem (by omega)]; exact List.mem_append_left _ hmem))⟩
        rw [hk1, inD_allfar d d0 (Ne.symm he) _ hct, hp]
theorem Home.crash {h : Nat → Bs} {q : Q} (H : Home h q) {N : Nat} (hS : Small N q) (ks : List Int) : Home h (crashQ q ks) := by
  have hA := stayAll_inv hS ks (looseS q) _ (Nat.le_refl _)
  have hN := stayAll_names q ks (looseS q) _ (Nat.le_refl _)
  rw [← crashA_eq] at hA hN
  obtain ⟨s, hs⟩ : ∃ s, crashA q ks = s := ⟨_, rfl⟩
  rw [hs] at hA hN
  have H1 : Home h { s.1 with loose := [] } := H.same hN hA.kept hA.changes
  have hnd : (dirsS { s.1 with loose := [] }).Nodup := (dirsS_perm _).nodup_iff.2 hA.small.dc
  have I := crash_inv H1 s.2 (dirsS { s.1 with loose := [] }) hnd _ (Nat.le_refl _)
  have e : dirAll ({ s.1 with loose := [] }, s.2) (dirsS { s.1 with loose := [] }) (dirsS { s.1 with loose := [] }).length = crashB s := (crashB_eq s).symm
  rw [e] at I
  unfold crashQ
  rw [hs]
  refine ⟨I.kept, (fun x hx => by cases hx), fun d => rfl, fun d n _ => ?_⟩
  obtain ⟨m, hm, hp, _⟩ := I.part d
  have hi := H1.inj d m hm
  rw [← hp] at hi
  have e2 : appAll ((Go.Proofs.YtbodkjifpmencaaGreat.chL { (crashB s).1 with changes := [], names := (crashB s).1.kept, told := false, ahead := 0, once := false } d).take n) (inD d (crashB s).1.kept) = inD d (crashB s).1.kept := by
    have : Go.Proofs.YtbodkjifpmencaaGreat.chL { (crashB s).1 with changes := [], names := (crashB s).1.kept, told := false, ahead := 0, once := false } d = [] := rfl
    rw [this, List.take_nil]
    rfl
  show ((appAll _ (inD d (crashB s).1.kept)).map (·.2)).Nodup
  rw [e2]
  exact hi
/-! ### Bytes -/
theorem sum_set (f : QB → Nat) (x : QB) (m : Nat) : ∀ (l : List QB) (k : Nat), (∀ y, l[k]? = some y → f x ≤ f y + m) → ((l.set k x).map f).sum ≤ (l.map f).sum + m
  | [], k, _ => by simp
  | y :: r, 0, h => by have := h y rfl; simp only [List.set_cons_zero, List.map_cons, List.sum_cons]; omega
  | y :: r, k + 1, h => by have := sum_set f x m r k (fun z hz => h z (by simpa using hz)); simp only [List.set_cons_succ, List.map_cons, List.sum_cons]; omega
theorem total_set (q : Q) (k : Nat) (x : QB) (m : Nat) (h : x.now.length ≤ (qbody q k).now.length + m) (q' : Q) (hq : q'.bodies = q.bodies.set k x) : totalB q' ≤ totalB q + m := by
  unfold totalB
  rw [hq]
  refine sum_set (fun b => b.now.length) x m q.bodies k (fun y hy => ?_)
  have : qbody q k = y := by unfold qbody; rw [List.getD_eq_getElem?_getD, hy]; rfl
  rw [← this]
  exact h
theorem total_same {q q' : Q} (h : q'.bodies = q.bodies) : totalB q' = totalB q := by unfold totalB; rw [h]
theorem total_keep1 (q : Q) (c : QC) : totalB (keep1Q q c) ≤ totalB q := by
  unfold keep1Q goneQ
  cases look q.kept c.to with
  | none => exact Nat.le_of_eq (total_same rfl)
  | some g => exact total_set q g ⟨[], 0⟩ 0 (Nat.zero_le _) _ rfl
theorem total_keepQ : ∀ (cs : List QC) (q : Q), totalB (keepQ q cs) ≤ totalB q
  | [], _q => Nat.le_refl _
  | c :: r, q => Nat.le_trans (total_keepQ r (keep1Q q c)) (total_keep1 q c)
theorem total_begin (q : Q) (r : Bool) : totalB (beginQ q r).2 = totalB q := total_same (begin_keeps q r).2.2.2
theorem total_extend (q : Q) (k : Nat) (b : Bs) : totalB (extendQ q k b) ≤ totalB q + b.length := by
  unfold extendQ
  split
  · omega
  · exact total_set q k ⟨(qbody q k).now ++ b, (qbody q k).kept⟩ b.length (by rw [List.length_append]; omega) _ rfl
theorem total_write (q : Q) (p b : Bs) : totalB (writeQ q p b).2 ≤ totalB q + b.length := by
  have h1 := total_begin q (rightL p)
  unfold writeQ
  rcases hb : beginQ q (rightL p) with ⟨e, q1⟩
  rw [hb] at h1
  dsimp only at *
  split
  · split
    · have h2 := total_extend { q1 with bodies := q1.bodies ++ [⟨[], 0⟩] } q1.bodies.length b
      have h3 : totalB { q1 with bodies := q1.bodies ++ [⟨[], 0⟩] } = totalB q1 := by unfold totalB; simp
      have h4 : totalB (changeQ (newBodyQ q1 b) p p (some q1.bodies.length)) = totalB (newBodyQ q1 b) := total_same rfl
      show totalB (changeQ _ _ _ _) ≤ _
      rw [h4]
      unfold newBodyQ
      omega
    · show totalB q1 ≤ _; omega
  · show totalB q1 ≤ _; omega
theorem total_append (q : Q) (p b : Bs) : totalB (appendQ q p b).2 ≤ totalB q + b.length := by
  have h1 := total_begin q (rightL p)
  unfold appendQ
  rcases hb : beginQ q (rightL p) with ⟨e, q1⟩
  rw [hb] at h1
  dsimp only at *
  split
  · split
    · show totalB q1 ≤ _; omega
    · split
      · rename_i k _ _
        have := total_extend q1 k b
        show totalB (extendQ _ _ _) ≤ _; omega
      · show totalB q1 ≤ _; omega
  · show totalB q1 ≤ _; omega
theorem total_rename (q : Q) (p t : Bs) : totalB (renameQ q p t).2 = totalB q := by
  have h1 := total_begin q (rightL p && rightL t && dirL p == dirL t)
  unfold renameQ
  rcases hb : beginQ q (rightL p && rightL t && dirL p == dirL t) with ⟨e, q1⟩
  rw [hb] at h1
  dsimp only at *
  split
  · split
    · exact h1
    · dsimp only
      split
      · exact h1
      · exact (total_same rfl).trans h1
  · exact h1
theorem total_remove (q : Q) (p : Bs) : totalB (removeQ q p).2 = totalB q := by
  have h1 := total_begin q (rightL p)
  unfold removeQ
  rcases hb : beginQ q (rightL p) with ⟨e, q1⟩
  rw [hb] at h1
  dsimp only at *
  split
  · split
    · exact h1
    · exact (total_same rfl).trans h1
  · exact h1
theorem total_sync (q : Q) (p : Bs) : totalB (syncQ q p).2 ≤ totalB q := by
  have h1 := total_begin q (rightL p)
  unfold syncQ
  rcases hb : beginQ q (rightL p) with ⟨e, q1⟩
  rw [hb] at h1
  dsimp only at *
  split
  · split
    · exact Nat.le_of_eq h1
    · rename_i k hk
      have := total_set q1 k ⟨(qbody q1 k).now, (qbody q1 k).now.length⟩ 0 (Nat.le_refl _) { q1 with bodies := q1.bodies.set k ⟨(qbody q1 k).now, (qbody q1 k).now.length⟩, loose := dropN q1.loose k } rfl
      rw [h1] at this
      exact this
  · exact Nat.le_of_eq h1
theorem total_syncDir (q : Q) (d : Bs) : totalB (syncDirQ q d).2 ≤ totalB q := by
  have h1 := total_begin q (d == [] || isPartL d)
  unfold syncDirQ
  rcases hb : beginQ q (d == [] || isPartL d) with ⟨e, q1⟩
  rw [hb] at h1
  dsimp only at *
  split
  · have := total_keepQ ((look q1.changes d).getD []) q1
    exact Nat.le_trans (Nat.le_of_eq (total_same rfl)) (Nat.le_trans this (Nat.le_of_eq h1))
  · exact Nat.le_of_eq h1
theorem total_stay (q : Q) (ks : List Int) (l : List Nat) : ∀ k, k ≤ l.length → totalB (stayAll q ks l k).1 ≤ totalB q := by
  intro k
  induction k with
  | zero => intro _; exact Nat.le_refl _
  | succ k ih =>
    intro hk
    rw [stayAll_succ _ _ _ _ (by omega)]
    refine Nat.le_trans ?_ (ih (by omega))
    exact total_set (stayAll q ks l k).1 l[k] ⟨_, _⟩ 0 (by show (List.take _ _).length ≤ _; rw [List.length_take]; omega) _ rfl
theorem total_dirs (s : Q × List Int) (l : List Bs) : ∀ k, k ≤ l.length → totalB (dirAll s l k).1 ≤ totalB s.1 := by
  intro k
  induction k with
  | zero => intro _; exact Nat.le_refl _
  | succ k ih =>
    intro hk
    rw [dirAll_succ _ _ _ (by omega)]
    exact Nat.le_trans (total_keepQ _ _) (ih (by omega))
theorem total_crash (q : Q) (ks : List Int) : totalB (crashQ q ks) ≤ totalB q := by
  have h1 := total_stay q ks (looseS q) _ (Nat.le_refl _)
  rw [← crashA_eq] at h1
  have h2 := total_dirs ({ (crashA q ks).1 with loose := [] }, (crashA q ks).2) (dirsS (crashA q ks).1) _ (Nat.le_refl _)
  rw [← crashB_eq] at h2
  have h3 : totalB ({ (crashA q ks).1 with loose := [] }, (crashA q ks).2).1 = totalB (crashA q ks).1 := total_same rfl
  have h4 : totalB (crashQ q ks) = totalB (crashB (crashA q ks)).1 := total_same rfl
  omega
end Go.Proofs.YtbodkjifpmencaaGreat
namespace Go.Proofs.YtbodkjifpmencaaGreat
open Go.RowKit
open Go.Lib

/-- A disk that a call has made itself, since w0. -/
def Mine (w0 : World) (D : Nat) (q : Q) (W : World) : Prop := ∃ L, L.d = D ∧ QD L q W ∧ Below w0.heap.size w0 W ∧ ∀ b, foot L q b → w0.heap.size ≤ b
theorem Mine.under {w0 : World} {D : Nat} {q : Q} {W : World} (h : Mine w0 D q W) : Below w0.heap.size w0 W := by obtain ⟨_, _, _, h, _⟩ := h; exact h
theorem Mine.below {w0 : World} {D : Nat} {q : Q} {W W' : World} (h : Mine w0 D q W) (hb : Below W.heap.size W W') : Mine w0 D q W' := by
  obtain ⟨L, h1, h2, h3, h4⟩ := h
  exact ⟨L, h1, h2.below hb, h3.trans (hb.mono h3.size), h4⟩
theorem Mine.alloc {w0 : World} {D : Nat} {q : Q} {W : World} (h : Mine w0 D q W) (o : Obj) : Mine w0 D q (W.alloc o) := h.below ((Below.refl _ _).alloc (Nat.le_refl _) _)
theorem Mine.drew {w0 : World} {D : Nat} {q : Q} {W : World} (h : Mine w0 D q W) : Mine w0 D q W.drew := by
  obtain ⟨L, h1, h2, h3, h4⟩ := h
  exact ⟨L, h1, h2.drew, h3.trans (Off.below (F := fun _ => False) (Off.drew (Off.refl _ W)) (fun _ h => h.elim) |>.mono h3.size), h4⟩
theorem Mine.step {w0 : World} {L L' : Lay} {q q' : Q} {w w' : World} (hs : Step L q w L' q' w') (hb : Below w0.heap.size w0 w) (hf : ∀ b, foot L q b → w0.heap.size ≤ b) : Mine w0 L.d q' w' :=
  ⟨L', hs.d, hs.to, hb.trans ⟨hs.off.os, hs.off.tape, hs.off.output, hs.off.size, fun k hk => hs.off.block k (Nat.lt_of_lt_of_le hk hb.size) (fun h => absurd hk (Nat.not_lt.2 (hf k h)))⟩, fun b hb' => (hs.own b hb').elim (hf b) (fun h => Nat.le_trans hb.size h)⟩
theorem mine_new {w0 : World} (room : Int) (w : World) (hb : Below w0.heap.size w0 w) : Calls Tryz.prog 7 #[.int .i64 room] w fun e w' => ∃ D, e = .returned (.pointer (some ⟨D, 0, none⟩)) ∧ Mine w0 D (qNew room) w' :=
  (new_any room w).mono fun _e _w' ⟨L, h1, h2, h3, h4⟩ => ⟨L.d, h1, L, rfl, h2, hb.trans (h3.mono hb.size), fun b h => Nat.le_trans hb.size (h4 b h)⟩
section
variable {w0 V W : World} {D N : Nat} {q q' : Q} {e : Int}
theorem mine_write (M : Mine w0 D q V) (hb : Below V.heap.size V W) (hS : Small N q) (s : ByteArray) (hs : s.size ≤ 281474976710656) (b : Bs) (n : Nat) (hn : b.length = n) (A : Option Addr) (c : Nat) (hA : RB W A b) (hAF : 0 < n → ∀ x, aBlock A = some x → x < w0.heap.size ∨ V.heap.size ≤ x) (hN : N + 3 + n ≤ 1048576) (hq : writeQ q s.data.toList b = (e, q')) :
    Calls Tryz.prog 18 #[.pointer (some ⟨D, 0, none⟩), .string s, .slice A n c] W fun x w' => x = .returned (.int .i64 e) ∧ Mine w0 D q' w' := by
  obtain ⟨L, rfl, h2, h3, h4⟩ := M
  subst hn
  have hno : 0 < b.length → ∀ x, aBlock A = some x → ¬ foot L q x := fun hz x hx hf => by
    rcases hAF hz x hx with h | h
    · have := h4 x hf; omega
    · have := h2.foot_lt hf; omega
  have h := write_any (h2.below hb) hS s hs b A c hA hno hN
  rw [hq] at h
  exact h.mono fun x w' ⟨k1, L', k2⟩ => ⟨k1, Mine.step k2 (h3.trans (hb.mono h3.size)) h4⟩
theorem mine_append (M : Mine w0 D q V) (hb : Below V.heap.size V W) (hS : Small N q) (s : ByteArray) (hs : s.size ≤ 281474976710656) (b : Bs) (n : Nat) (hn : b.length = n) (A : Option Addr) (c : Nat) (hA : RB W A b) (hAF : 0 < n → ∀ x, aBlock A = some x → x < w0.heap.size ∨ V.heap.size ≤ x) (hN : N + 3 + n ≤ 1048576) (hq : appendQ q s.data.toList b = (e, q')) :
    Calls Tryz.prog 21 #[.pointer (some ⟨D, 0, none⟩), .string s, .slice A n c] W fun x w' => x = .returned (.int .i64 e) ∧ Mine w0 D q' w' := by
  obtain ⟨L, rfl, h2, h3, h4⟩ := M
  subst hn
  have hno : 0 < b.length → ∀ x, aBlock A = some x → ¬ foot L q x := fun hz x hx hf => by
    rcases hAF hz x hx with h | h
    · have := h4 x hf; omega
    · have := h2.foot_lt hf; omega
  have h := append_any (h2.below hb) hS s hs b A c hA hno hN
  rw [hq] at h
  exact h.mono fun x w' ⟨k1, L', k2⟩ => ⟨k1, Mine.step k2 (h3.trans (hb.mono h3.size)) h4⟩
theorem mine_rename (M : Mine w0 D q W) (hS : Small N q) (hN : N ≤ 1048576) (s t : ByteArray) (hs : s.size ≤ 281474976710656) (ht : t.size ≤ 281474976710656) (hq : renameQ q s.data.toList t.data.toList = (e, q')) :
    Calls Tryz.prog 27 #[.pointer (some ⟨D, 0, none⟩), .string s, .string t] W fun x w' => x = .returned (.int .i64 e) ∧ Mine w0 D q' w' := by
  obtain ⟨L, rfl, h2, h3, h4⟩ := M
  have h := rename_any h2 hS hN s t hs ht
  rw [hq] at h
  exact h.mono fun x w' ⟨k1, L', k2⟩ => ⟨k1, Mine.step k2 h3 h4⟩
theorem mine_remove (M : Mine w0 D q W) (hS : Small N q) (hN : N ≤ 1048576) (s : ByteArray) (hs : s.size ≤ 281474976710656) (hq : removeQ q s.data.toList = (e, q')) :
    Calls Tryz.prog 29 #[.pointer (some ⟨D, 0, none⟩), .string s] W fun x w' => x = .returned (.int .i64 e) ∧ Mine w0 D q' w' := by
  obtain ⟨L, rfl, h2, h3, h4⟩ := M
  have h := remove_any h2 hS hN s hs
  rw [hq] at h
  exact h.mono fun x w' ⟨k1, L', k2⟩ => ⟨k1, Mine.step k2 h3 h4⟩
theorem mine_sync (M : Mine w0 D q W) (hS : Small N q) (hN : N ≤ 1048576) (s : ByteArray) (hs : s.size ≤ 281474976710656) (hq : syncQ q s.data.toList = (e, q')) :
    Calls Tryz.prog 19 #[.pointer (some ⟨D, 0, none⟩), .string s] W fun x w' => x = .returned (.int .i64 e) ∧ Mine w0 D q' w' := by
  obtain ⟨L, rfl, h2, h3, h4⟩ := M
  have h := sync_any h2 hS hN s hs
  rw [hq] at h
  exact h.mono fun x w' ⟨k1, L', k2⟩ => ⟨k1, Mine.step k2 h3 h4⟩
theorem mine_syncDir (M : Mine w0 D q W) (hS : Small N q) (hN : N ≤ 1048576) (s : ByteArray) (hs : s.size ≤ 281474976710656) (hq : syncDirQ q s.data.toList = (e, q')) :
    Calls Tryz.prog 20 #[.pointer (some ⟨D, 0, none⟩), .string s] W fun x w' => x = .returned (.int .i64 e) ∧ Mine w0 D q' w' := by
  obtain ⟨L, rfl, h2, h3, h4⟩ := M
  have h := syncDir_any h2 hS hN s hs
  rw [hq] at h
  exact h.mono fun x w' ⟨k1, L', k2⟩ => ⟨k1, Mine.step k2 h3 h4⟩
theorem mine_fail (M : Mine w0 D q W) (calls : Int) (once : Bool) :
    Calls Tryz.prog 24 #[.pointer (some ⟨D, 0, none⟩), .int .i64 calls, .bool once] W fun x w' => x = .returned (.tuple #[]) ∧ Mine w0 D (failQ q calls once) w' := by
  obtain ⟨L, rfl, h2, h3, h4⟩ := M
  exact (fail_any h2 calls once).mono fun x w' ⟨k1, k2⟩ => ⟨k1, Mine.step k2 h3 h4⟩
theorem mine_crash (M : Mine w0 D q V) (hb : Below V.heap.size V W) (hS : Small N q) (hN : N ≤ 1048576) (ks : List Int) (n : Nat) (hn : ks.length = n) (A : Option Addr) (c : Nat) (hA : RI W A ks) (hR : Range ks) (hkl : ks.length ≤ 1048576) (hc : ks.length ≤ c) (hAF : 0 < ks.length → ∀ x, aBlock A = some x → x < w0.heap.size ∨ V.heap.size ≤ x) (hq : crashQ q ks = q') :
    Calls Tryz.prog 22 #[.pointer (some ⟨D, 0, none⟩), .slice A n c] W fun x w' => x = .returned (.tuple #[]) ∧ Mine w0 D q' w' := by
  obtain ⟨L, rfl, h2, h3, h4⟩ := M
  subst hn
  have hno : 0 < ks.length → ∀ x, aBlock A = some x → ¬ foot L q x := fun hz x hx hf => by
    rcases hAF hz x hx with h | h
    · have := h4 x hf; omega
    · have := h2.foot_lt hf; omega
  have h := crash_any (h2.below hb) hS hN ks A c hA hR hkl hc hno
  rw [hq] at h
  exact h.mono fun x w' ⟨k1, L', k2⟩ => ⟨k1, Mine.step k2 (h3.trans (hb.mono h3.size)) h4⟩
theorem mine_used (M : Mine w0 D q W) (hS : Small N q) (hN : N ≤ 1048576) (u : Nat) (hu : usedQ q = u) :
    Calls Tryz.prog 12 #[.pointer (some ⟨D, 0, none⟩)] W fun x w' => x = .returned (.int .i64 (u : Int)) ∧ Mine w0 D q w' := by
  have M' := M
  obtain ⟨L, rfl, h2, h3, h4⟩ := M
  subst hu
  exact (used_any h2 hS hN).mono fun x w' ⟨k1, k2⟩ => ⟨k1, M'.below k2⟩
theorem mine_list (M : Mine w0 D q W) (hS : Small N q) (hN : N ≤ 1048576) (s : ByteArray) (ls : List Bs) (hq : listQ q s.data.toList = ls) :
    Calls Tryz.prog 16 #[.pointer (some ⟨D, 0, none⟩), .string s] W fun x w' => ∃ A c, x = .returned (.slice A ls.length c) ∧ RT w' A ls ∧ (∀ b, aBlock A = some b → W.heap.size ≤ b ∧ b < w'.heap.size) ∧ Below W.heap.size W w' ∧ Mine w0 D q w' := by
  have M' := M
  obtain ⟨L, rfl, h2, h3, h4⟩ := M
  subst hq
  refine (list_any h2 hS hN s).mono fun x w' ⟨v, k1, k2, k3⟩ => ?_
  obtain ⟨A, c, rfl, k4, k5, _⟩ := rt_of_row k2
  exact ⟨A, c, k1, k4, k5, k3, M'.below k3⟩
theorem mine_read (M : Mine w0 D q W) (hS : Small N q) (hN : N ≤ 1048576) (s : ByteArray) (hs : s.size ≤ 281474976710656) (b : Bs) (hq : readQ q s.data.toList = some b) :
    Calls Tryz.prog 10 #[.pointer (some ⟨D, 0, none⟩), .string s] W fun x w' => ∃ v, x = .returned (.tuple #[v, .int .i64 0]) ∧ OwnB w' W.heap.size v b ∧ Below W.heap.size W w' ∧ Mine w0 D q w' := by
  have M' := M
  obtain ⟨L, rfl, h2, h3, h4⟩ := M
  refine (read_any h2 hS hN s hs).mono fun x w' ⟨k1, k2⟩ => ?_
  unfold readQ at hq
  cases hl : look q.names s.data.toList with
  | none => rw [hl] at hq; cases hq
  | some k =>
    rw [hl] at hq k1
    injection hq with hq
    obtain ⟨v, k3, k4⟩ := k1
    exact ⟨v, k3, by rw [← hq]; exact k4, k2, M'.below k2⟩
theorem mine_read_none (M : Mine w0 D q W) (hS : Small N q) (hN : N ≤ 1048576) (s : ByteArray) (hs : s.size ≤ 281474976710656) (hq : readQ q s.data.toList = none) :
    Calls Tryz.prog 10 #[.pointer (some ⟨D, 0, none⟩), .string s] W fun x w' => x = .returned (.tuple #[.slice none 0 0, .int .i64 60]) ∧ Mine w0 D q w' := by
  have M' := M
  obtain ⟨L, rfl, h2, h3, h4⟩ := M
  refine (read_any h2 hS hN s hs).mono fun x w' ⟨k1, k2⟩ => ?_
  unfold readQ at hq
  cases hl : look q.names s.data.toList with
  | none => rw [hl] at k1; exact ⟨k1, M'.below k2⟩
  | some k => rw [hl] at hq; cases hq
end
/-! ### A concrete disk -/
def F1 : Q := ⟨100, [⟨[120, 121], 0⟩], [([97], 0)], [], [([], [⟨[97], [97], some 0⟩])], [(0, ())], false, 0, false⟩
def F2 : Q := ⟨100, [⟨[120, 121], 2⟩], [([97], 0)], [], [([], [⟨[97], [97], some 0⟩])], [], false, 0, false⟩
def F3 : Q := ⟨100, [⟨[120, 121], 2⟩], [], [], [], [], false, 0, false⟩
def F4 : Q := ⟨100, [⟨[120, 121], 2⟩, ⟨[120, 121], 0⟩], [([97], 1)], [], [([], [⟨[97], [97], some 1⟩])], [(1, ())], false, 0, false⟩
def F5 : Q := ⟨100, [⟨[120, 121], 2⟩, ⟨[120, 121], 0⟩], [([97], 1)], [([97], 1)], [], [(1, ())], false, 0, false⟩
def F6 : Q := ⟨100, [⟨[120, 121], 2⟩, ⟨[120], 1⟩], [([97], 1)], [([97], 1)], [], [], false, 0, false⟩
theorem F1_eq : writeQ (qNew 100) [97] [120, 121] = (0, F1) := by rfl
theorem F2_eq : syncQ F1 [97] = (0, F2) := by rfl
theorem F3_eq : crashQ F2 [] = F3 := by
  unfold crashQ crashB crashA
  simp only [F2, List.map_nil, List.map_cons, List.mergeSort_nil, List.mergeSort_singleton, List.foldl_nil, List.foldl_cons]
  rfl
theorem F3_list : listQ F3 [] = [] := by unfold listQ F3; simp
theorem F4_eq : writeQ F3 [97] [120, 121] = (0, F4) := by rfl
theorem F5_eq : syncDirQ F4 [] = (0, F5) := by rfl
theorem F6_a : crashA F5 [1] = ({ F6 with loose := [(1, ())] }, []) := by
  unfold crashA
  simp only [F5, List.map_nil, List.map_cons, List.mergeSort_singleton, List.foldl_nil, List.foldl_cons]
  rfl
theorem F6_eq : crashQ F5 [1] = F6 := by
  unfold crashQ
  rw [F6_a]
  unfold crashB
  simp only [F6, List.map_nil, List.mergeSort_nil, List.foldl_nil]
theorem F6_read : readQ F6 [97] = some [120] := by rfl
theorem F6_used : usedQ F6 = 1 := by rfl
theorem F7_eq : writeQ F6 [98, 47, 46, 46] [] = (2, F6) := by rfl
theorem F8_eq : writeQ F6 [98] (List.replicate 100 0) = (61, F6) := by rfl
theorem S0 : Small 20 (qNew 100) := (Small.new 100 (by decide)).mono (by decide)
theorem S1 : Small 20 F1 := by have := (Small.new 100 (by decide)).write [97] [120, 121]; rw [F1_eq] at this; exact this.mono (by decide)
theorem S2 : Small 20 F2 := by have := S1.sync [97]; rw [F2_eq] at this; exact this
theorem S3 : Small 20 F3 := by have := S2.crash []; rw [F3_eq] at this; exact this
theorem S4 : Small 30 F4 := by have := S3.write [97] [120, 121]; rw [F4_eq] at this; exact this.mono (by decide)
theorem S5 : Small 30 F5 := by have := S4.syncDir []; rw [F5_eq] at this; exact this
theorem S6 : Small 30 F6 := by have := S5.crash [1]; rw [F6_eq] at this; exact this
end Go.Proofs.YtbodkjifpmencaaGreat
namespace Go.Proofs.YtbodkjifpmencaaGreat
open Go.RowKit
open Go.Lib

/-- Bytes as a text. -/
theorem conv_rb {w : World} {A : Option Addr} {l : Bs} (c : Nat) (h : RB w A l) : (convert 28 9 (.slice A l.length c)).run Tryz.prog w = .ok (.string (bs l)) w := by
  cases l with
  | nil =>
    cases A with
    | none => exact run_convert_bytes_nil w 28 5 Tryz.underlying28 Tryz.underlying5 0 c 9 Tryz.underlying9
    | some a => exact run_convert_bytes_back w 28 9 5 a c [] Tryz.underlying28 Tryz.underlying5 Tryz.underlying9 (fun j hj => absurd hj (Nat.not_lt_zero _))
  | cons x r =>
    obtain ⟨b, off, rfl, hbl, hcs⟩ := h (by simp)
    refine run_convert_bytes_back w 28 9 5 ⟨b, off, none⟩ c (x :: r) Tryz.underlying28 Tryz.underlying5 Tryz.underlying9 fun j hj => ?_
    rw [Addr.add_mid, hcs j hj]
    simp [bf, List.getD, List.getElem?_eq_getElem hj]
theorem rb_new {W : World} {C : Array Value} {t : TypeId} {f : Nat × Nat} (l : Bs) (h : ∀ j, j < l.length → C[j]? = some (bf l j)) : RB (W.alloc (.cells C t f)) (some ⟨W.heap.size, 0, none⟩) l := fun _ => by
  refine ⟨W.heap.size, 0, rfl, by simp, fun j hj => ?_⟩
  rw [Nat.zero_add, World.cell?]
  have := Blk.new (.cells C t f) W
  unfold Blk at this
  simp only [this]
  exact h j hj
theorem rb_xy (W : World) (f : Nat × Nat) : RB (W.alloc (.cells #[.int .u8 120, .int .u8 121] 5 f)) (some ⟨W.heap.size, 0, none⟩) [120, 121] := rb_new _ (fun j hj => match j, hj with | 0, _ => rfl | 1, _ => rfl)
theorem ri_one (W : World) (f : Nat × Nat) : RI (W.alloc (.cells #[.int .i64 1] 3 f)) (some ⟨W.heap.size, 0, none⟩) [1] := fun _ => by
  refine ⟨W.heap.size, 0, rfl, by simp, fun j hj => ?_⟩
  have h0 : j = 0 := by simp at hj; omega
  subst h0
  exact (Blk.new _ _).cell 0
theorem made100 (W : World) : (Instr.makeSlice 28 (.int .i64 100) (.int .i64 100)).run Tryz.prog W = .ok (.slice (some ⟨W.heap.size, 0, none⟩) 100 100) (W.alloc (.cells (madeCells #[.int .u8 0] 100) 5)) := by
  obtain ⟨i0, hi, hz0, hz1, hz2⟩ := info_parts Tryz.infoU8
  have h := run_makeSlice (P := Tryz.prog) W 28 5 i0 (.int .u8 0) Tryz.underlying28 hi hz0 .i64 .i64 100 100 (by decide) (by decide) (by rw [hz1]; decide) (by rw [hz2]; decide) (by decide)
  rw [hz1] at h
  exact h
theorem rb_made (W : World) : RB (W.alloc (.cells (madeCells #[.int .u8 0] 100) 5)) (some ⟨W.heap.size, 0, none⟩) (List.replicate 100 0) := rb_new _ (fun j hj => by
  have hj' : j < 100 := by simpa using hj
  unfold madeCells
  rw [Array.getElem?_map, Array.getElem?_range, if_pos hj']
  simp only [Option.map_some, List.size_toArray, List.length_cons, List.length_nil, Nat.zero_add, Nat.mod_one]
  unfold bf
  rw [List.getD_eq_getElem?_getD, List.getElem?_replicate, if_pos hj']
  rfl)
set_option maxRecDepth 100000 in
set_option maxHeartbeats 2000000 in
theorem first_any (w : World) : Calls Tryz.prog 6 #[] w fun e w' => e = .returned (.bool true) ∧ Below w.heap.size w w' := by
  have kc : ∀ W : World, (convert 28 28 (.slice (some ⟨W.heap.size, 0, none⟩) 2 2)).run Tryz.prog (W.alloc (.cells #[.int .u8 120, .int .u8 121] 5)) = .ok (.slice (some ⟨W.heap.size, 0, none⟩) 2 2) (W.alloc (.cells #[.int .u8 120, .int .u8 121] 5 (2, 3))) := fun W =>
    Lib.run_convert_bytes_const (P := Tryz.prog) W 28 5 _ 2 2 Tryz.underlying28 Tryz.underlying5
  have hmk := made100
  go_enter Tryz.func6, Tryz.ntmps6
  go_wp2_with (first
    | (go_at_call 7; (with_reducible refine (mine_new (w0 := w) 100 _ (Below.refl _ _)).mono ?_); rintro e w1 ⟨D, rfl, M0⟩)
    | (go_at_call 18; refine (mine_write M0 ((Below.refl _ _).alloc (Nat.le_refl _) _) S0 ⟨#[97]⟩ (by decide) [120, 121] 2 rfl _ _ (rb_xy _ _) (fun _ x hx => .inr (Nat.le_of_eq (Option.some.inj hx))) (by decide) F1_eq).mono ?_; rintro e w2 ⟨rfl, M1⟩; clear M0)
    | (go_at_call 19; refine (mine_sync M1 S1 (by decide) ⟨#[97]⟩ (by decide) F2_eq).mono ?_; rintro e w3 ⟨rfl, M2⟩; clear M1)
    | (go_at_call 22; refine (mine_crash M2 (Below.refl _ _) S2 (by decide) [] 0 rfl none 0 (fun h => absurd h (Nat.lt_irrefl _)) (fun z hz => by cases hz) (by decide) (by decide) (fun h => absurd h (Nat.lt_irrefl _)) F3_eq).mono ?_; rintro e w4 ⟨rfl, M3⟩; clear M2)
    | (go_at_call 16; refine (mine_list M3 S3 (by decide) ⟨#[]⟩ [] F3_list).mono ?_; rintro e w5 ⟨A5, c5, rfl, _, _, _, M3b⟩; clear M3)
    | (go_at_call 18; refine (mine_write M3b ((Below.refl _ _).alloc (Nat.le_refl _) _) S3 ⟨#[97]⟩ (by decide) [120, 121] 2 rfl _ _ (rb_xy _ _) (fun _ x hx => .inr (Nat.le_of_eq (Option.some.inj hx))) (by decide) F4_eq).mono ?_; rintro e w6 ⟨rfl, M4⟩; clear M3b)
    | (go_at_call 20; refine (mine_syncDir M4 S4 (by decide) ⟨#[]⟩ (by decide) F5_eq).mono ?_; rintro e w7 ⟨rfl, M5⟩; clear M4)
    | (go_at_call 22; refine (mine_crash M5 ((Below.refl _ _).alloc (Nat.le_refl _) _) S5 (by decide) [1] 1 rfl _ _ (ri_one _ _) (fun z hz => by simp at hz; subst hz; decide) (by decide) (by decide) (fun _ x hx => .inr (Nat.le_of_eq (Option.some.inj hx))) F6_eq).mono ?_; rintro e w8 ⟨rfl, M6⟩; clear M5)
    | (go_at_call 10; refine (mine_read M6 S6 (by decide) ⟨#[97]⟩ (by decide) [120] F6_read).mono ?_; rintro e w9 ⟨v9, rfl, O9, B9, M6b⟩; clear M6; have kv : (convert 28 9 v9).run Tryz.prog w9 = .ok (.string ⟨#[120]⟩) w9 := (by obtain ⟨A9, c9, h9, _, R9, _⟩ := O9.read; rw [h9]; exact conv_rb c9 R9))
    | (go_at_call 12; refine (mine_used M6b S6 (by decide) 1 F6_used).mono ?_; rintro e w10 ⟨rfl, M6c⟩; clear M6b)
    | (go_at_call 18; refine (mine_write M6c (Below.refl _ _) S6 ⟨#[98, 47, 46, 46]⟩ (by decide) [] 0 rfl none 0 (RB.nil _ _) (fun _ x hx => by cases hx) (by decide) F7_eq).mono ?_; rintro e w11 ⟨rfl, M7⟩; clear M6c)
    | (go_at_call 18; refine (mine_write M7 ((Below.refl _ _).alloc (Nat.le_refl _) _) S6 ⟨#[98]⟩ (by decide) (List.replicate 100 0) 100 (by simp) _ _ (rb_made _) (fun _ x hx => .inr (Nat.le_of_eq (Option.some.inj hx))) (by decide) F8_eq).mono ?_; rintro e w12 ⟨rfl, M8⟩; clear M7))
  go_ret
  exact ⟨rfl, M8.under⟩
end Go.Proofs.YtbodkjifpmencaaGreat
namespace Go.Proofs.YtbodkjifpmencaaGreat
open Go.ChangeShapes Go.WideShapes Go.ChangeAt Go.RowKit
open Go.ChangeMaps (open_string shut_string)

theorem own : ownKnob Tryz.prog.godebug = none := by kernel_rfl
theorem laid_out : laidOutB Tryz.prog = true := by kernel_rfl
theorem u8_wf {n : Int} (h : (Lit.int .u8 n).wf = true) : ∃ b : UInt8, n = (b.toNat : Int) := by
  simp [Lit.wf, IntKind.min, IntKind.max, IntKind.signed, IntKind.bits] at h
  refine ⟨UInt8.ofNat n.toNat, ?_⟩
  rw [show (UInt8.ofNat n.toNat).toNat = n.toNat % 256 from UInt8.toNat_ofNat' ..]
  omega
theorem i64_wf {n : Int} (h : (Lit.int .i64 n).wf = true) : -9223372036854775808 ≤ n ∧ n ≤ 9223372036854775807 := by
  simp [Lit.wf, IntKind.min, IntKind.max, IntKind.signed, IntKind.bits] at h
  omega
set_option maxRecDepth 100000 in
theorem low_of {W : World} {base : Nat} {t e : TypeId} {a0 : Option Addr} {len cap : Nat} (ht : Tryz.prog.underlying t = some (.slice e)) (h : Value.okWide Tryz.prog W .any base t (.slice a0 len cap)) : ∀ x, aBlock a0 = some x → x < W.heap.size := by
  intro x hx
  cases a0 with
  | none => cases hx
  | some a =>
    simp only [Value.okWide, ht, Cell.okWide, Cell.ok] at h
    obtain ⟨_, _, _, _, row, cells, hs, _⟩ := h
    have : a.block = x := Option.some.inj hx
    subst this
    unfold World.shape? at hs
    refine Nat.lt_of_not_le fun hge => ?_
    rw [Array.getElem?_eq_none hge] at hs
    simp at hs
theorem bytes_of {H : Type} {enc : TypeId × Value → H} {W : World} {fuel : Nat} {a0 : Option Addr} {len cap : Nat} {d : DataW H} {q : List MemPlace}
    (hf : DataW.trod enc Tryz.prog W 0 (fun _ => true) true fuel 28 (Value.slice a0 len cap).cells.toList = some (d, q)) : ∃ l : List UInt8, l.length = len ∧ RB W a0 l := by
  rcases open_ints Tryz.underlying28 Tryz.underlying5 (by kernel_rfl) hf with ⟨hcs, hx⟩ | ⟨a, len', cap', zs, hcs, _, hl, hm, hz, hx, hcell, hwz⟩
  · simp [Value.cells] at hcs
    obtain ⟨rfl, rfl, rfl⟩ := hcs
    exact ⟨[], rfl, RB.nil _ _⟩
  · simp [Value.cells] at hcs
    obtain ⟨rfl, rfl, rfl⟩ := hcs
    simp only [if_true] at hz
    have hlen : ((zs.take len).map fun z => UInt8.ofNat z.toNat).length = len := by rw [List.length_map, List.length_take]; omega
    refine ⟨(zs.take len).map fun z => UInt8.ofNat z.toNat, hlen, fun hpos => ?_⟩
    rw [hlen] at hpos
    obtain ⟨b, off, spot⟩ := a
    have h00 := hcell 0 (by omega)
    have hspot : spot = none := by simpa [Addr.add] using World.cell?_spot h00
    subst hspot
    refine ⟨b, off, rfl, by simpa [Addr.add] using World.block_lt_of_cell? W _ h00, fun j hj => ?_⟩
    have hjl : j < len := by rw [hlen] at hj; exact hj
    have hjs : j < zs.length := by omega
    rw [← Addr.add_mid, hcell j hjs]
    obtain ⟨x, hx⟩ := u8_wf (hwz (zs[j]) (List.getElem_mem hjs))
    unfold bf
    simp [List.getD, List.getElem?_take_of_lt hjl, hjs, hx]
theorem ints_of {H : Type} {enc : TypeId × Value → H} {W : World} {fuel : Nat} {a0 : Option Addr} {len cap : Nat} {d : DataW H} {q : List MemPlace}
    (hf : DataW.trod enc Tryz.prog W 0 (fun _ => true) true fuel 29 (Value.slice a0 len cap).cells.toList = some (d, q)) : ∃ l : List Int, l.length = len ∧ len ≤ cap ∧ RI W a0 l ∧ Range l := by
  rcases open_ints Tryz.underlying29 Tryz.underlying3 (by kernel_rfl) hf with ⟨hcs, hx⟩ | ⟨a, len', cap', zs, hcs, _, hl, hm, hz, hx, hcell, hwz⟩
  · simp [Value.cells] at hcs
    obtain ⟨rfl, rfl, rfl⟩ := hcs
    exact ⟨[], rfl, Nat.le_refl _, (fun h => absurd h (Nat.lt_irrefl _)), fun z hz => by cases hz⟩
  · simp [Value.cells] at hcs
    obtain ⟨rfl, rfl, rfl⟩ := hcs
    simp only [if_true] at hz
    have hlen : (zs.take len).length = len := by rw [List.length_take]; omega
    refine ⟨zs.take len, hlen, hl, fun hpos => ?_, fun z hz => i64_wf (hwz z (List.mem_of_mem_take hz))⟩
    rw [hlen] at hpos
    obtain ⟨b, off, spot⟩ := a
    have h00 := hcell 0 (by omega)
    have hspot : spot = none := by simpa [Addr.add] using World.cell?_spot h00
    subst hspot
    refine ⟨b, off, rfl, by simpa [Addr.add] using World.block_lt_of_cell? W _ h00, fun j hj => ?_⟩
    have hjl : j < len := by rw [hlen] at hj; exact hj
    have hjs : j < zs.length := by omega
    rw [← Addr.add_mid, hcell j hjs]
    simp [List.getD, hjs]
/-! ### A script's acts -/
structure OpR where
  kind : Int
  path : ByteArray
  tgt : ByteArray
  bA : Option Addr
  bc : Nat
  b : Bs
  n : Int
  kA : Option Addr
  kc : Nat
  ks : List Int
def opCells (o : OpR) : List Value := [.int .i64 o.kind, .string o.path, .string o.tgt, .slice o.bA o.b.length o.bc, .int .i64 o.n, .slice o.kA o.ks.length o.kc]
structure OpOk (W : World) (o : OpR) : Prop where
  kind : -9223372036854775808 ≤ o.kind ∧ o.kind ≤ 9223372036854775807
  path : o.path.size ≤ maxLen
  tgt : o.tgt.size ≤ maxLen
  n : -9223372036854775808 ≤ o.n ∧ o.n ≤ 9223372036854775807
  rb : RB W o.bA o.b
  ri : RI W o.kA o.ks
  rg : Range o.ks
  cap : o.ks.length ≤ o.kc
  nilb : o.bA = none → o.bc = 0
/-- The slice at A reads as these acts. -/
def RO (W : World) (A : Option Addr) (os : List OpR) : Prop :=
  0 < os.length → ∃ b off, A = some ⟨b, off, none⟩ ∧ b < W.heap.size ∧ ∀ j (h : j < os.length) i, i < 6 → W.cell? ⟨b, off + j * 6 + i, none⟩ = (opCells os[j])[i]?
theorem bytes_cell {H : Type} {enc : TypeId × Value → H} {W : World} {fuel : Nat} {c : Value} {x : DataW H × List MemPlace} (hf : DataW.trod enc Tryz.prog W 0 (fun _ => true) true fuel 28 [c] = some x) : ∃ A cap l, c = .slice A (l : List UInt8).length cap ∧ RB W A l ∧ (A = none → cap = 0) := by
  have hc : ∃ A n cap, c = .slice A n cap ∧ (A = none → cap = 0) := by
    rcases DataW.trod_slice Tryz.underlying28 hf with ⟨h, _⟩ | ⟨a, len, cap, _, _, _, _, h, _⟩
    · exact ⟨none, 0, 0, by simpa using h, fun _ => rfl⟩
    · exact ⟨some a, len, cap, by simpa using h, fun h => by cases h⟩
  obtain ⟨A, n, cap, rfl, hnil⟩ := hc
  obtain ⟨d, q⟩ := x
  obtain ⟨l, hl, hr⟩ := bytes_of (a0 := A) (len := n) (cap := cap) hf
  exact ⟨A, cap, l, by rw [hl], hr, hnil⟩
theorem ints_cell {H : Type} {enc : TypeId × Value → H} {W : World} {fuel : Nat} {c : Value} {x : DataW H × List MemPlace} (hf : DataW.trod enc Tryz.prog W 0 (fun _ => true) true fuel 29 [c] = some x) : ∃ A cap l, c = .slice A (l : List Int).length cap ∧ RI W A l ∧ Range l ∧ l.length ≤ cap := by
  have hc : ∃ A n cap, c = .slice A n cap := by
    rcases DataW.trod_slice Tryz.underlying29 hf with ⟨h, _⟩ | ⟨a, len, cap, _, _, _, _, h, _⟩
    · exact ⟨none, 0, 0, by simpa using h⟩
    · exact ⟨some a, len, cap, by simpa using h⟩
  obtain ⟨A, n, cap, rfl⟩ := hc
  obtain ⟨d, q⟩ := x
  obtain ⟨l, hl, hk, hr, hg⟩ := ints_of (a0 := A) (len := n) (cap := cap) hf
  exact ⟨A, cap, l, by rw [hl], hr, hg, by rw [hl]; exact hk⟩
theorem six {α : Type} (l : List α) (h : l.length = 6) : ∃ a b c d e f, l = [a, b, c, d, e, f] := by
  match l, h with
  | [a, b, c, d, e, f], _ => exact ⟨a, b, c, d, e, f, rfl⟩
theorem op_of {H : Type} {enc : TypeId × Value → H} {W : World} {fuel : Nat} {cs : List Value} {x : DataW H × List MemPlace} (h : DataW.trod enc Tryz.prog W 0 (fun _ => true) true fuel 31 cs = some x) : ∃ o : OpR, cs = opCells o ∧ OpOk W o := by
  obtain ⟨xs, m, _, _, hl, hxl, hf⟩ := DataW.trod_struct Tryz.underlying31 h
  rw [show Tryz.prog.cellsOf 31 = 6 by kernel_rfl] at hl
  obtain ⟨c0, c1, c2, c3, c4, c5, rfl⟩ := six cs hl
  obtain ⟨x0, x1, x2, x3, x4, x5, rfl⟩ := six xs hxl
  have s3 : Tryz.prog.cellsOf 3 = 1 := by kernel_rfl
  have s9 : Tryz.prog.cellsOf 9 = 1 := by kernel_rfl
  have s24 : Tryz.prog.cellsOf 28 = 1 := by kernel_rfl
  have s25 : Tryz.prog.cellsOf 29 = 1 := by kernel_rfl
  have g0 : DataW.trod enc Tryz.prog W 0 (fun _ => true) true m 3 (([c0, c1, c2, c3, c4, c5].drop 0).take (Tryz.prog.cellsOf 3)) = some x0 := hf 0 _ rfl
  rw [s3] at g0
  have h0 : DataW.trod enc Tryz.prog W 0 (fun _ => true) true m 3 [c0] = some x0 := g0
  have g1 : DataW.trod enc Tryz.prog W 0 (fun _ => true) true m 9 (([c0, c1, c2, c3, c4, c5].drop 1).take (Tryz.prog.cellsOf 9)) = some x1 := hf 1 _ rfl
  rw [s9] at g1
  have h1 : DataW.trod enc Tryz.prog W 0 (fun _ => true) true m 9 [c1] = some x1 := g1
  have g2 : DataW.trod enc Tryz.prog W 0 (fun _ => true) true m 9 (([c0, c1, c2, c3, c4, c5].drop 2).take (Tryz.prog.cellsOf 9)) = some x2 := hf 2 _ rfl
  rw [s9] at g2
  have h2 : DataW.trod enc Tryz.prog W 0 (fun _ => true) true m 9 [c2] = some x2 := g2
  have g3 : DataW.trod enc Tryz.prog W 0 (fun _ => true) true m 28 (([c0, c1, c2, c3, c4, c5].drop 3).take (Tryz.prog.cellsOf 28)) = some x3 := hf 3 _ rfl
  rw [s24] at g3
  have h3 : DataW.trod enc Tryz.prog W 0 (fun _ => true) true m 28 [c3] = some x3 := g3
  have g4 : DataW.trod enc Tryz.prog W 0 (fun _ => true) true m 3 (([c0, c1, c2, c3, c4, c5].drop 4).take (Tryz.prog.cellsOf 3)) = some x4 := hf 4 _ rfl
  rw [s3] at g4
  have h4 : DataW.trod enc Tryz.prog W 0 (fun _ => true) true m 3 [c4] = some x4 := g4
  have g5 : DataW.trod enc Tryz.prog W 0 (fun _ => true) true m 29 (([c0, c1, c2, c3, c4, c5].drop 5).take (Tryz.prog.cellsOf 29)) = some x5 := hf 5 _ rfl
  rw [s25] at g5
  have h5 : DataW.trod enc Tryz.prog W 0 (fun _ => true) true m 29 [c5] = some x5 := g5
  obtain ⟨k, e0, _, w0⟩ := DataW.trod_int Tryz.underlying3 h0
  obtain ⟨p, e1, _, w1⟩ := DataW.trod_string Tryz.underlying9 h1
  obtain ⟨t, e2, _, w2⟩ := DataW.trod_string Tryz.underlying9 h2
  obtain ⟨bA, bc, b, e3, r3, n3⟩ := bytes_cell (c := c3) h3
  obtain ⟨n, e4, _, w4⟩ := DataW.trod_int Tryz.underlying3 h4
  obtain ⟨kA, kc, ks, e5, r5, rg5, l5⟩ := ints_cell (c := c5) h5
  simp at e0 e1 e2 e4
  subst e0 e1 e2 e3 e4 e5
  exact ⟨⟨k, p, t, bA, bc, b, n, kA, kc, ks⟩, rfl, i64_wf w0, w1, w2, i64_wf w4, r3, r5, rg5, l5, n3⟩
theorem ops_of {H : Type} {enc : TypeId × Value → H} {W : World} {fuel : Nat} {a0 : Option Addr} {len cap : Nat} {d : DataW H} {q : List MemPlace}
    (hf : DataW.trod enc Tryz.prog W 0 (fun _ => true) true fuel 22 (Value.slice a0 len cap).cells.toList = some (d, q)) : ∃ os : List OpR, os.length = len ∧ RO W a0 os ∧ ∀ o ∈ os, OpOk W o := by
  rcases DataW.trod_slice Tryz.underlying22 hf with ⟨hcs, _⟩ | ⟨a, len', cap', elems, rest, n, _, hcs, _, _, hl, hm, hlen, hel, _, _⟩
  · simp [Value.cells] at hcs
    obtain ⟨rfl, rfl, rfl⟩ := hcs
    exact ⟨[], rfl, (fun h => absurd h (Nat.lt_irrefl _)), fun o ho => by cases ho⟩
  · simp [Value.cells] at hcs
    obtain ⟨rfl, rfl, rfl⟩ := hcs
    rw [show Tryz.prog.cellsOf 31 = 6 by kernel_rfl] at hel
    have each : ∀ i : Fin len, ∃ o : OpR, OpOk W o ∧ ∀ k, k < 6 → W.cell? ((a.add (i.1 * 6)).add k) = (opCells o)[k]? := by
      intro i
      have h := hel i.1 i.2
      rw [List.getElem?_eq_getElem (by omega), Option.bind_eq_some_iff] at h
      obtain ⟨cs, h1, h2⟩ := h
      obtain ⟨o, rfl, hok⟩ := op_of h2
      refine ⟨o, hok, fun k hk => ?_⟩
      unfold World.cells? at h1
      rw [if_pos (Nat.zero_le _)] at h1
      exact mapM_some_get h1 k k (by rw [List.getElem?_range]; exact hk)
    obtain ⟨f, hf'⟩ := Classical.axiomOfChoice each
    refine ⟨List.ofFn f, List.length_ofFn .., fun hz => ?_, fun o ho => ?_⟩
    · rw [List.length_ofFn] at hz
      obtain ⟨b, off, spot⟩ := a
      have h00 := (hf' ⟨0, hz⟩).2 0 (by decide)
      have hspot : spot = none := by simpa [Addr.add] using World.cell?_spot (h00.trans (show _ = some _ from rfl))
      subst hspot
      refine ⟨b, off, rfl, by simpa [Addr.add] using World.block_lt_of_cell? W _ (h00.trans (show _ = some _ from rfl)), fun j hj i hi => ?_⟩
      rw [List.length_ofFn] at hj
      rw [List.getElem_ofFn]
      have h := (hf' ⟨j, hj⟩).2 i hi
      rw [Addr.add_mid, Addr.add_mid] at h
      exact h
    · obtain ⟨i, rfl⟩ := List.mem_ofFn.1 ho
      exact (hf' i).1
end Go.Proofs.YtbodkjifpmencaaGreat
namespace Go.Proofs.YtbodkjifpmencaaGreat
open Go.RowKit
open Go.Lib

def kindQ (o : OpR) : Int := (IntKind.u64.wrap o.kind).tmod 8
theorem kindQ_lt (o : OpR) : 0 ≤ kindQ o ∧ kindQ o ≤ 7 := by
  unfold kindQ
  have h0 : 0 ≤ o.kind % 18446744073709551616 := Int.emod_nonneg o.kind (by decide)
  have h1 : (o.kind % 18446744073709551616).tmod 8 = (o.kind % 18446744073709551616) % 8 := Int.tmod_eq_emod_of_nonneg h0
  rw [IntKind.wrap_u64, h1]
  have h2 := Int.emod_nonneg (o.kind % 18446744073709551616) (show (8 : Int) ≠ 0 by decide)
  have h3 := Int.emod_lt_of_pos (o.kind % 18446744073709551616) (show (0 : Int) < 8 by decide)
  omega
def tryQ (q : Q) (o : OpR) : Int × Q :=
  if kindQ o = 0 then writeQ q o.path.data.toList o.b
  else if kindQ o = 1 then appendQ q o.path.data.toList o.b
  else if kindQ o = 2 then renameQ q o.path.data.toList o.tgt.data.toList
  else if kindQ o = 3 then removeQ q o.path.data.toList
  else if kindQ o = 4 then syncQ q o.path.data.toList
  else syncDirQ q o.path.data.toList
def opAgg (o : OpR) : Value := .agg #[.int .i64 o.kind, .string o.path, .string o.tgt, .slice o.bA o.b.length o.bc, .int .i64 o.n, .slice o.kA o.ks.length o.kc]
set_option maxRecDepth 100000 in
set_option maxHeartbeats 1000000 in
theorem mine_try {w0 W : World} {D N : Nat} {q : Q} (M : Mine w0 D q W) (hS : Small N q) (o : OpR) (hok : OpOk W o) (hlow : 0 < o.b.length → ∀ x, aBlock o.bA = some x → x < w0.heap.size) (hN : N + 3 + o.b.length ≤ 1048576) (hp : o.path.size ≤ 281474976710656) (ht : o.tgt.size ≤ 281474976710656) :
    Calls Tryz.prog 23 #[.pointer (some ⟨D, 0, none⟩), opAgg o] W fun e w' => e = .returned (.int .i64 (tryQ q o).1) ∧ Mine w0 D (tryQ q o).2 w' := by
  obtain ⟨e, q', hq⟩ : ∃ e q', tryQ q o = (e, q') := ⟨_, _, rfl⟩
  have hk := kindQ_lt o
  have hkq : kindQ o = (IntKind.u64.wrap o.kind).tmod 8 := rfl
  obtain ⟨m, hm⟩ : ∃ m, kindQ o = m := ⟨_, rfl⟩
  unfold tryQ at hq
  rw [hm] at hk hq hkq
  have hrb := hok.rb
  obtain ⟨kd, p, t, bA, bc, b, n, kA, kc, ks⟩ := o
  unfold opAgg
  dsimp only at *
  obtain ⟨nb, hnb⟩ : ∃ x, b.length = x := ⟨_, rfl⟩
  rw [hnb] at hN hlow ⊢
  have hrw : tryQ q ⟨kd, p, t, bA, bc, b, n, kA, kc, ks⟩ = (e, q') := by unfold tryQ; rw [hm]; exact hq
  rw [hrw]
  clear hrw hok hm
  have hN' : N ≤ 1048576 := by omega
  have HRB := Lib.hid (fun o => hrb.below ((Below.refl W.heap.size W).alloc (Nat.le_refl _) o))
  have HLOW := Lib.hid hlow
  clear hrb hlow
  by_cases h0 : m = 0
  · subst h0
    rw [if_pos rfl] at hq
    have HQ := Lib.hid hq
    have hk8 := hkq.symm
    clear hq hkq
    go_enter Tryz.func23, Tryz.ntmps23
    go_wp2_with (go_at_call 18; refine (mine_write M ((Below.refl _ _).alloc (Nat.le_refl _) _) hS p hp b nb hnb bA bc (HRB.out _) (fun hz x hx => .inl (HLOW.out hz x hx)) hN HQ.out).mono ?_; rintro x w1 ⟨rfl, M1⟩)
    go_ret
    exact ⟨rfl, M1⟩
  by_cases h1 : m = 1
  · subst h1
    rw [if_neg (by decide), if_pos rfl] at hq
    have HQ := Lib.hid hq
    have hk8 := hkq.symm
    clear hq hkq
    go_enter Tryz.func23, Tryz.ntmps23
    go_wp2_with (go_at_call 21; refine (mine_append M ((Below.refl _ _).alloc (Nat.le_refl _) _) hS p hp b nb hnb bA bc (HRB.out _) (fun hz x hx => .inl (HLOW.out hz x hx)) hN HQ.out).mono ?_; rintro x w1 ⟨rfl, M1⟩)
    go_ret
    exact ⟨rfl, M1⟩
  by_cases h2 : m = 2
  · subst h2
    rw [if_neg (by decide), if_neg (by decide), if_pos rfl] at hq
    have HQ := Lib.hid hq
    have hk8 := hkq.symm
    clear hq hkq
    go_enter Tryz.func23, Tryz.ntmps23
    go_wp2_with (go_at_call 27; refine (mine_rename (M.alloc _) hS hN' p t hp ht HQ.out).mono ?_; rintro x w1 ⟨rfl, M1⟩)
    go_ret
    exact ⟨rfl, M1⟩
  by_cases h3 : m = 3
  · subst h3
    rw [if_neg (by decide), if_neg (by decide), if_neg (by decide), if_pos rfl] at hq
    have HQ := Lib.hid hq
    have hk8 := hkq.symm
    clear hq hkq
    go_enter Tryz.func23, Tryz.ntmps23
    go_wp2_with (go_at_call 29; refine (mine_remove (M.alloc _) hS hN' p hp HQ.out).mono ?_; rintro x w1 ⟨rfl, M1⟩)
    go_ret
    exact ⟨rfl, M1⟩
  by_cases h4 : m = 4
  · subst h4
    rw [if_neg (by decide), if_neg (by decide), if_neg (by decide), if_neg (by decide), if_pos rfl] at hq
    have HQ := Lib.hid hq
    have hk8 := hkq.symm
    clear hq hkq
    go_enter Tryz.func23, Tryz.ntmps23
    go_wp2_with (go_at_call 19; refine (mine_sync (M.alloc _) hS hN' p hp HQ.out).mono ?_; rintro x w1 ⟨rfl, M1⟩)
    go_ret
    exact ⟨rfl, M1⟩
  rw [if_neg (by omega), if_neg (by omega), if_neg (by omega), if_neg (by omega), if_neg (by omega)] at hq
  have HQ := Lib.hid hq
  have n0 : ((IntKind.u64.wrap kd).tmod 8 == 0) = false := by rw [beq_eq_false_iff_ne]; omega
  have n1 : ((IntKind.u64.wrap kd).tmod 8 == 1) = false := by rw [beq_eq_false_iff_ne]; omega
  have n2 : ((IntKind.u64.wrap kd).tmod 8 == 2) = false := by rw [beq_eq_false_iff_ne]; omega
  have n3 : ((IntKind.u64.wrap kd).tmod 8 == 3) = false := by rw [beq_eq_false_iff_ne]; omega
  have n4 : ((IntKind.u64.wrap kd).tmod 8 == 4) = false := by rw [beq_eq_false_iff_ne]; omega
  clear hq hkq
  go_enter Tryz.func23, Tryz.ntmps23
  go_wp2_with (go_at_call 20; refine (mine_syncDir (M.alloc _) hS hN' p hp HQ.out).mono ?_; rintro x w1 ⟨rfl, M1⟩)
  go_ret
  exact ⟨rfl, M1⟩
end Go.Proofs.YtbodkjifpmencaaGreat
