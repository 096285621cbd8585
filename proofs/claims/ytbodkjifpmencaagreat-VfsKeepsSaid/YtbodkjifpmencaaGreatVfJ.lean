/-
  No body has two names: in what is named now, in what is kept, in what a crash may leave. No conditions.
-/
import Derived.Test.YtbodkjifpmencaaGreatVfT
namespace Go.Proofs.YtbodkjifpmencaaGreat

/-! ### Sums -/
theorem sum_sub (f : Nat → Nat) : ∀ (l m : List Nat), l.Nodup → (∀ x ∈ l, x ∈ m) → (l.map f).sum ≤ (m.map f).sum
  | [], m, _, _ => by simp
  | x :: r, m, hd, hs => by
    rw [List.nodup_cons] at hd
    have hx : x ∈ m := hs x (by simp)
    have h := sum_sub f r (m.erase x) hd.2 (fun y hy => (List.mem_erase_of_ne (fun e => hd.1 (by rw [← e]; exact hy))).2 (hs y (by simp [hy])))
    have hp := ((List.perm_cons_erase hx).map f).sum_nat
    simp only [List.map_cons, List.sum_cons] at hp ⊢
    omega
def totalB (q : Q) : Nat := (q.bodies.map fun b => b.now.length).sum
theorem total_range (q : Q) : totalB q = ((List.range q.bodies.length).map fun k => (qbody q k).now.length).sum := by
  unfold totalB
  congr 1
  refine List.ext_getElem (by simp) (fun i h1 h2 => ?_)
  simp only [List.getElem_map, List.getElem_range]
  unfold qbody
  rw [List.getD_eq_getElem?_getD, List.getElem?_eq_getElem (by simpa using h1)]
  rfl
theorem used_total {q : Q} (hd : (q.names.map (·.2)).Nodup) (hl : ∀ x ∈ q.names, x.2 < q.bodies.length) : usedQ q ≤ totalB q := by
  have h := sum_sub (fun k => (qbody q k).now.length) (q.names.map (·.2)) (List.range q.bodies.length) hd (fun x hx => by
    obtain ⟨y, hy, rfl⟩ := List.mem_map.1 hx
    exact List.mem_range.2 (hl y hy))
  rw [List.map_map] at h
  rw [total_range]
  exact h
/-! ### A directory's names -/
def inD (d : Bs) (l : Nm) : Nm := l.filter fun x => decide (dirL x.1 = d)
def appAll (cs : List QC) (l : Nm) : Nm := cs.foldl (fun l c => applyN c l) l
theorem appAll_snoc (cs : List QC) (c : QC) (l : Nm) : appAll (cs ++ [c]) l = applyN c (appAll cs l) := by simp [appAll, List.foldl_append]
theorem keepQ_kept (q : Q) (cs : List QC) : (keepQ q cs).kept = appAll cs q.kept := by
  unfold keepQ appAll
  induction cs generalizing q with
  | nil => rfl
  | cons c r ih => rw [List.foldl_cons, List.foldl_cons, ih, keep1_kept]
theorem inD_drop (d : Bs) (l : Nm) (p : Bs) : inD d (dropN l p) = dropN (inD d l) p := by
  unfold inD dropN
  rw [List.filter_filter, List.filter_filter]
  refine List.filter_congr (fun x _ => Bool.and_comm _ _)
theorem drop_far (d : Bs) (l : Nm) (p : Bs) (h : dirL p ≠ d) : dropN (inD d l) p = inD d l := by
  unfold dropN
  rw [List.filter_eq_self]
  intro x hx
  unfold inD at hx
  have := (List.mem_filter.1 hx).2
  simp at this ⊢
  intro e
  exact h (e ▸ this)
theorem inD_put (d : Bs) (l : Nm) (p : Bs) (k : Nat) : inD d (putN l p k) = dropN (inD d l) p ++ (if dirL p = d then [(p, k)] else []) := by
  unfold putN
  rw [show inD d (dropN l p ++ [(p, k)]) = inD d (dropN l p) ++ inD d [(p, k)] from List.filter_append .., inD_drop]
  congr 1
  unfold inD
  by_cases h : dirL p = d <;> simp [h]
theorem inD_apply (d : Bs) (c : QC) (l : Nm) (_h : dirL c.frm = d) (h2 : dirL c.to = d) : inD d (applyN c l) = applyN c (inD d l) := by
  unfold applyN
  cases c.body with
  | none => exact inD_drop d l c.frm
  | some k =>
    dsimp only
    rw [inD_put, inD_drop, if_pos h2]
    rfl
theorem inD_far (d : Bs) (c : QC) (l : Nm) (h : dirL c.frm ≠ d) (h2 : dirL c.to ≠ d) : inD d (applyN c l) = inD d l := by
  unfold applyN
  cases c.body with
  | none => dsimp only; rw [inD_drop, drop_far d l _ h]
  | some k =>
    dsimp only
    rw [inD_put, inD_drop, if_neg h2, List.append_nil, drop_far d l _ h, drop_far d l _ h2]
theorem inD_all (d : Bs) (cs : List QC) (h : ∀ c ∈ cs, dirL c.frm = d ∧ dirL c.to = d) : ∀ l : Nm, inD d (appAll cs l) = appAll cs (inD d l) := by
  induction cs with
  | nil => intro l; rfl
  | cons c r ih =>
    intro l
    show inD d (appAll r (applyN c l)) = appAll r (applyN c (inD d l))
    rw [ih (fun c' hc => h c' (by simp [hc])), inD_apply d c l (h c (by simp)).1 (h c (by simp)).2]
theorem inD_allfar (d e : Bs) (hne : e ≠ d) (cs : List QC) (h : ∀ c ∈ cs, dirL c.frm = e ∧ dirL c.to = e) : ∀ l : Nm, inD d (appAll cs l) = inD d l := by
  induction cs with
  | nil => intro l; rfl
  | cons c r ih =>
    intro l
    have hc := h c (by simp)
    show inD d (appAll r (applyN c l)) = inD d l
    rw [ih (fun c' hc => h c' (by simp [hc])), inD_far d c l (by rw [hc.1]; exact hne) (by rw [hc.2]; exact hne)]
theorem mem_appAll : ∀ {cs : List QC} {l : Nm} {x : Bs × Nat}, x ∈ appAll cs l → x ∈ l ∨ ∃ c ∈ cs, x.1 = c.to ∧ c.body = some x.2
  | [], _, _, h => .inl h
  | c :: r, l, x, h => by
    rcases mem_appAll (cs := r) (l := applyN c l) h with h | ⟨c', hc, h⟩
    · rcases mem_applyN h with h | h
      · exact .inl h
      · exact .inr ⟨c, by simp, h⟩
    · exact .inr ⟨c', by simp [hc], h⟩
/-! ### Where each body is at home -/
structure Home (h : Nat → Bs) (q : Q) : Prop where
  kept : ∀ x ∈ q.kept, dirL x.1 = h x.2
  chg : ∀ x ∈ q.changes, ∀ c ∈ x.2, dirL c.frm = x.1 ∧ dirL c.to = x.1 ∧ ∀ k, c.body = some k → h k = x.1
  names : ∀ d, inD d q.names = appAll (chL q d) (inD d q.kept)
  inj : ∀ d n, n ≤ (chL q d).length → ((appAll ((chL q d).take n) (inD d q.kept)).map (·.2)).Nodup
theorem Home.chL {h : Nat → Bs} {q : Q} (H : Home h q) (d : Bs) : ∀ c ∈ chL q d, dirL c.frm = d ∧ dirL c.to = d ∧ ∀ k, c.body = some k → h k = d := by
  intro c hc
  unfold Go.Proofs.YtbodkjifpmencaaGreat.chL at hc
  cases hl : look q.changes d with
  | none => rw [hl] at hc; cases hc
  | some cs => rw [hl] at hc; exact H.chg _ (look_mem hl) c hc
theorem Home.name {h : Nat → Bs} {q : Q} (H : Home h q) {x : Bs × Nat} (hx : x ∈ q.names) : dirL x.1 = h x.2 := by
  have h1 : x ∈ inD (dirL x.1) q.names := List.mem_filter.2 ⟨hx, by simp⟩
  rw [H.names] at h1
  rcases mem_appAll h1 with h1 | ⟨c, hc, h1, h2⟩
  · exact H.kept x (List.mem_filter.1 h1).1
  · exact ((H.chL _ c hc).2.2 _ h2).symm
theorem nodup_of_home (h : Nat → Bs) : ∀ l : Nm, (∀ x ∈ l, dirL x.1 = h x.2) → (∀ d, ((inD d l).map (·.2)).Nodup) → (l.map (·.2)).Nodup
  | [], _, _ => List.nodup_nil
  | x :: r, hh, hd => by
    rw [List.map_cons, List.nodup_cons]
    refine ⟨fun hm => ?_, nodup_of_home h r (fun y hy => hh y (by simp [hy])) (fun d => ?_)⟩
    · obtain ⟨y, hy, he⟩ := List.mem_map.1 hm
      have hdir : dirL y.1 = dirL x.1 := by rw [hh y (by simp [hy]), hh x (by simp), he]
      have := hd (dirL x.1)
      unfold inD at this
      rw [List.filter_cons_of_pos (by simp), List.map_cons, List.nodup_cons] at this
      exact this.1 (List.mem_map.2 ⟨y, List.mem_filter.2 ⟨hy, by simp [hdir]⟩, he⟩)
    · have := hd d
      unfold inD at this ⊢
      by_cases hx : dirL x.1 = d
      · rw [List.filter_cons_of_pos (by simpa using hx), List.map_cons, List.nodup_cons] at this; exact this.2
      · rwa [List.filter_cons_of_neg (by simpa using hx)] at this
theorem Home.nodup {h : Nat → Bs} {q : Q} (H : Home h q) : (q.names.map (·.2)).Nodup :=
  nodup_of_home h q.names (fun _ hx => H.name hx) (fun d => by
    have := H.inj d _ (Nat.le_refl _)
    rw [List.take_length] at this
    rwa [H.names])
theorem Home.new (room : Int) : Home (fun _ => []) (qNew room) := ⟨(fun x hx => by cases hx), (fun x hx => by cases hx), (fun d => rfl), (fun d n _ => by
  have : appAll ((Go.Proofs.YtbodkjifpmencaaGreat.chL (qNew room) d).take n) (inD d (qNew room).kept) = [] := by simp [Go.Proofs.YtbodkjifpmencaaGreat.chL, qNew, look, appAll, inD]
  rw [this]; exact List.nodup_nil)⟩
theorem Home.same {h : Nat → Bs} {q q' : Q} (H : Home h q) (h1 : q'.names = q.names) (h2 : q'.kept = q.kept) (h3 : q'.changes = q.changes) : Home h q' := by
  have hc : ∀ d, Go.Proofs.YtbodkjifpmencaaGreat.chL q' d = Go.Proofs.YtbodkjifpmencaaGreat.chL q d := fun d => by unfold Go.Proofs.YtbodkjifpmencaaGreat.chL; rw [h3]
  refine ⟨by rw [h2]; exact H.kept, by rw [h3]; exact H.chg, fun d => by rw [h1, h2, hc]; exact H.names d, fun d n hn => ?_⟩
  rw [hc] at hn ⊢
  rw [h2]
  exact H.inj d n hn
theorem look_put_same {l : List (Bs × List QC)} {d : Bs} {v : List QC} : look (putN l d v) d = some v := by
  unfold look putN dropN
  rw [List.find?_append, List.find?_eq_none.2 (by intro x hx; have := (List.mem_filter.1 hx).2; simpa using this)]
  simp
theorem find_filter_far {l : List (Bs × List QC)} {d e : Bs} (h : e ≠ d) : (l.filter fun x => decide (x.1 ≠ d)).find? (fun x => decide (x.1 = e)) = l.find? (fun x => decide (x.1 = e)) := by
  rw [List.find?_filter]
  congr 1
  funext x
  by_cases hx : x.1 = e
  · simp [hx, h]
  · simp [hx]
theorem look_put_far {l : List (Bs × List QC)} {d e : Bs} {v : List QC} (h : e ≠ d) : look (putN l d v) e = look l e := by
  unfold look putN dropN
  rw [List.find?_append, find_filter_far h]
  simp [Ne.symm h]
theorem look_drop_far {l : List (Bs × List QC)} {d e : Bs} (h : e ≠ d) : look (dropN l d) e = look l e := by
  unfold look dropN
  rw [find_filter_far h]
theorem look_drop_same {l : List (Bs × List QC)} {d : Bs} : look (dropN l d) d = none := by
  unfold look dropN
  rw [List.find?_eq_none.2 (by intro x hx; have := (List.mem_filter.1 hx).2; simpa using this)]
  rfl
/-- A change of names. -/
theorem Home.change {h : Nat → Bs} {q : Q} (H : Home h q) (frm tgt : Bs) (o : Option Nat) (hd : dirL tgt = dirL frm) (ho : ∀ k, o = some k → h k = dirL frm) (hn : ((applyN ⟨frm, tgt, o⟩ (inD (dirL frm) q.names)).map (·.2)).Nodup) : Home h (changeQ q frm tgt o) := by
  have hs : Go.Proofs.YtbodkjifpmencaaGreat.chL (changeQ q frm tgt o) (dirL frm) = Go.Proofs.YtbodkjifpmencaaGreat.chL q (dirL frm) ++ [⟨frm, tgt, o⟩] := by
    unfold Go.Proofs.YtbodkjifpmencaaGreat.chL changeQ
    dsimp only
    rw [look_put_same]
    rfl
  have hf : ∀ e, e ≠ dirL frm → Go.Proofs.YtbodkjifpmencaaGreat.chL (changeQ q frm tgt o) e = Go.Proofs.YtbodkjifpmencaaGreat.chL q e := fun e he => by
    unfold Go.Proofs.YtbodkjifpmencaaGreat.chL changeQ
    dsimp only
    rw [look_put_far he]
  refine ⟨H.kept, ?_, fun d => ?_, fun d n hle => ?_⟩
  · intro x hx c hc
    rcases mem_put hx with hx | rfl
    · exact H.chg x hx c hc
    · rcases List.mem_append.1 hc with hc | hc
      · exact H.chL _ c hc
      · simp at hc; subst hc; exact ⟨rfl, hd, ho⟩
  · by_cases he : d = dirL frm
    · subst he
      rw [hs, appAll_snoc]
      show inD _ (applyN ⟨frm, tgt, o⟩ q.names) = applyN _ (appAll _ (inD _ q.kept))
      rw [inD_apply (dirL frm) ⟨frm, tgt, o⟩ q.names rfl hd, H.names]
    · rw [hf d he]
      show inD _ (applyN ⟨frm, tgt, o⟩ q.names) = appAll _ (inD _ q.kept)
      rw [inD_far d ⟨frm, tgt, o⟩ q.names (fun e => he e.symm) (fun e => he (e.symm.trans hd)), H.names]
  · by_cases he : d = dirL frm
    · subst he
      rw [hs] at hle ⊢
      show ((appAll _ (inD _ q.kept)).map (·.2)).Nodup
      rw [List.length_append, List.length_singleton] at hle
      by_cases hl : n ≤ (Go.Proofs.YtbodkjifpmencaaGreat.chL q (dirL frm)).length
      · rw [List.take_append_of_le_length hl]; exact H.inj _ n hl
      · rw [List.take_of_length_le (by rw [List.length_append, List.length_singleton]; omega), appAll_snoc, ← H.names]; exact hn
    · rw [hf d he] at hle ⊢
      exact H.inj d n hle
end Go.Proofs.YtbodkjifpmencaaGreat
