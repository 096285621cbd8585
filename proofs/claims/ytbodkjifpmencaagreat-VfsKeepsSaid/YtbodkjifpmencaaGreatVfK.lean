/-
  Every call keeps each body at home; how much bytes there are at most. No conditions.
-/
import Derived.Test.YtbodkjifpmencaaGreatVfJ
namespace Go.Proofs.YtbodkjifpmencaaGreat

theorem begin_keeps (q : Q) (r : Bool) : (beginQ q r).2.names = q.names ∧ (beginQ q r).2.kept = q.kept ∧ (beginQ q r).2.changes = q.changes ∧ (beginQ q r).2.bodies = q.bodies := by
  rw [begin_snd]
  cases r
  · exact ⟨rfl, rfl, rfl, rfl⟩
  · rw [if_pos rfl]
    unfold strikeQ
    split
    · split <;> exact ⟨rfl, rfl, rfl, rfl⟩
    · exact ⟨rfl, rfl, rfl, rfl⟩
theorem Home.begin {h : Nat → Bs} {q : Q} (H : Home h q) (r : Bool) : Home h (beginQ q r).2 := by
  obtain ⟨h1, h2, h3, _⟩ := begin_keeps q r
  exact H.same h1 h2 h3
theorem nodup_snoc_v {l : Nm} {p : Bs} {k : Nat} (h : (l.map (·.2)).Nodup) (hk : ∀ x ∈ l, x.2 ≠ k) : ((l ++ [(p, k)]).map (·.2)).Nodup := by
  rw [List.map_append, List.nodup_append]
  refine ⟨h, by simp, ?_⟩
  intro a ha b hb
  simp at hb
  subst hb
  obtain ⟨x, hx, rfl⟩ := List.mem_map.1 ha
  exact hk x hx
theorem drop_nodup_v {l : Nm} (h : (l.map (·.2)).Nodup) (p : Bs) : ((dropN l p).map (·.2)).Nodup := h.sublist (List.filter_sublist.map _)
theorem snd_inj : ∀ {l : Nm}, (l.map (·.2)).Nodup → ∀ {x y : Bs × Nat}, x ∈ l → y ∈ l → x.2 = y.2 → x = y
  | z :: r, h, x, y, hx, hy, he => by
    rw [List.map_cons, List.nodup_cons] at h
    rcases List.mem_cons.1 hx with h1 | h1
    · rcases List.mem_cons.1 hy with h2 | h2
      · rw [h1, h2]
      · exact absurd (List.mem_map.2 ⟨y, h2, by rw [← he, h1]⟩) h.1
    · rcases List.mem_cons.1 hy with h2 | h2
      · exact absurd (List.mem_map.2 ⟨x, h1, by rw [he, h2]⟩) h.1
      · exact snd_inj h.2 h1 h2 he
theorem Home.inDnames {h : Nat → Bs} {q : Q} (H : Home h q) (d : Bs) : ((inD d q.names).map (·.2)).Nodup := by
  have := H.inj d _ (Nat.le_refl _)
  rw [List.take_length] at this
  rwa [H.names]
theorem Home.congr {h h' : Nat → Bs} {q : Q} (H : Home h q) {N : Nat} (hS : Small N q) (he : ∀ k, k < q.bodies.length → h k = h' k) : Home h' q := by
  refine ⟨fun x hx => (H.kept x hx).trans (he _ (hS.kk x hx).2), fun x hx c hc => ?_, H.names, H.inj⟩
  have := H.chg x hx c hc
  exact ⟨this.1, this.2.1, fun k hk => by rw [← he k (((hS.kc x hx).2 c hc).2.2 k hk)]; exact this.2.2 k hk⟩
theorem extend_same (q : Q) (k : Nat) (b : Bs) : (extendQ q k b).names = q.names ∧ (extendQ q k b).kept = q.kept ∧ (extendQ q k b).changes = q.changes := by
  unfold extendQ; split <;> exact ⟨rfl, rfl, rfl⟩
theorem Home.write {h : Nat → Bs} {q : Q} (H : Home h q) {N : Nat} (hS : Small N q) (p b : Bs) : ∃ h', Home h' (writeQ q p b).2 := by
  have h1 := H.begin (rightL p)
  have s1 := hS.begin (rightL p)
  unfold writeQ
  rcases hb : beginQ q (rightL p) with ⟨e, q1⟩
  rw [hb] at h1 s1
  dsimp only at *
  split
  · split
    · obtain ⟨n1, n2, n3⟩ := extend_same { q1 with bodies := q1.bodies ++ [⟨[], 0⟩] } q1.bodies.length b
      refine ⟨upd h q1.bodies.length (dirL p), ?_⟩
      have H2 : Home (upd h q1.bodies.length (dirL p)) q1 := h1.congr s1 (fun k hk => (upd_ne h _ (by omega)).symm)
      have H3 : Home (upd h q1.bodies.length (dirL p)) (newBodyQ q1 b) := H2.same n1 n2 n3
      refine H3.change p p (some q1.bodies.length) rfl (fun k hk => by injection hk with hk; rw [← hk, upd_same]) ?_
      have hnm : (newBodyQ q1 b).names = q1.names := n1
      rw [hnm]
      show ((dropN (dropN (inD (dirL p) q1.names) p) p ++ [(p, q1.bodies.length)]).map (·.2)).Nodup
      refine nodup_snoc_v (drop_nodup_v (drop_nodup_v (H2.inDnames _) _) _) (fun x hx => ?_)
      have hx2 : x ∈ q1.names := (List.mem_filter.1 (mem_drop (mem_drop hx))).1
      have := (s1.kn x hx2).2
      omega
    · exact ⟨h, h1⟩
  · exact ⟨h, h1⟩
theorem Home.append {h : Nat → Bs} {q : Q} (H : Home h q) (p b : Bs) : Home h (appendQ q p b).2 := by
  have h1 := H.begin (rightL p)
  unfold appendQ
  rcases hb : beginQ q (rightL p) with ⟨e, q1⟩
  rw [hb] at h1
  dsimp only at *
  split
  · split
    · exact h1
    · split
      · obtain ⟨n1, n2, n3⟩ := extend_same q1 _ b
        exact h1.same n1 n2 n3
      · exact h1
  · exact h1
theorem Home.sync {h : Nat → Bs} {q : Q} (H : Home h q) (p : Bs) : Home h (syncQ q p).2 := by
  have h1 := H.begin (rightL p)
  unfold syncQ
  rcases hb : beginQ q (rightL p) with ⟨e, q1⟩
  rw [hb] at h1
  dsimp only at *
  split
  · split
    · exact h1
    · exact h1.same rfl rfl rfl
  · exact h1
theorem Home.remove {h : Nat → Bs} {q : Q} (H : Home h q) (p : Bs) : Home h (removeQ q p).2 := by
  have h1 := H.begin (rightL p)
  unfold removeQ
  rcases hb : beginQ q (rightL p) with ⟨e, q1⟩
  rw [hb] at h1
  dsimp only at *
  split
  · split
    · exact h1
    · exact h1.change p p none rfl (fun k hk => by cases hk) (drop_nodup_v (h1.inDnames _) _)
  · exact h1
theorem Home.rename {h : Nat → Bs} {q : Q} (H : Home h q) (p t : Bs) : Home h (renameQ q p t).2 := by
  have h1 := H.begin (rightL p && rightL t && dirL p == dirL t)
  have h2 := begin_err q (rightL p && rightL t && dirL p == dirL t)
  unfold renameQ
  rcases hb : beginQ q (rightL p && rightL t && dirL p == dirL t) with ⟨e, q1⟩
  rw [hb] at h1 h2
  dsimp only at *
  split
  · have hr : (rightL p && rightL t && dirL p == dirL t) = true := by rcases h2 with h | h | h <;> simp_all
    simp only [Bool.and_eq_true, beq_iff_eq] at hr
    split
    · exact h1
    · rename_i k hk
      dsimp only
      split
      · exact h1
      · refine h1.change p t (some k) hr.2.symm (fun j hj => by injection hj with hj; rw [← hj]; exact (h1.name (look_mem hk)).symm) ?_
        show ((dropN (dropN (inD (dirL p) q1.names) p) t ++ [(t, k)]).map (·.2)).Nodup
        refine nodup_snoc_v (drop_nodup_v (drop_nodup_v (h1.inDnames _) _) _) (fun x hx he => ?_)
        have hx1 := mem_drop hx
        have hx2 : x ∈ inD (dirL p) q1.names := mem_drop hx1
        have hp : (p, k) ∈ inD (dirL p) q1.names := List.mem_filter.2 ⟨look_mem hk, by simp⟩
        have := snd_inj (h1.inDnames _) hx2 hp he
        subst this
        have := (List.mem_filter.1 hx1).2
        simp at this
  · exact h1
/-- What holds while directories are kept one by one. -/
theorem Home.keptOf {h : Nat → Bs} {q : Q} (H : Home h q) (cs : List QC) (hc : ∀ c ∈ cs, ∀ k, c.body = some k → h k = dirL c.to) {l : Nm} (hl : ∀ x ∈ l, dirL x.1 = h x.2) : ∀ x ∈ appAll cs l, dirL x.1 = h x.2 := by
  have _ := H
  intro x hx
  rcases mem_appAll hx with hx | ⟨c, hm, h1, h2⟩
  · exact hl x hx
  · rw [h1, hc c hm _ h2]
theorem Home.syncDir {h : Nat → Bs} {q : Q} (H : Home h q) (d : Bs) : Home h (syncDirQ q d).2 := by
  have h1 := H.begin (d == [] || isPartL d)
  unfold syncDirQ
  rcases hb : beginQ q (d == [] || isPartL d) with ⟨e, q1⟩
  rw [hb] at h1
  dsimp only at *
  split
  · obtain ⟨s1, s2, _⟩ := keepQ_same q1 (Go.Proofs.YtbodkjifpmencaaGreat.chL q1 d)
    have hk := keepQ_kept q1 (Go.Proofs.YtbodkjifpmencaaGreat.chL q1 d)
    have hcs := h1.chL d
    change Home h { keepQ q1 (Go.Proofs.YtbodkjifpmencaaGreat.chL q1 d) with changes := dropN (keepQ q1 (Go.Proofs.YtbodkjifpmencaaGreat.chL q1 d)).changes d }
    have hc1 : Go.Proofs.YtbodkjifpmencaaGreat.chL { keepQ q1 (Go.Proofs.YtbodkjifpmencaaGreat.chL q1 d) with changes := dropN (keepQ q1 (Go.Proofs.YtbodkjifpmencaaGreat.chL q1 d)).changes d } d = [] := by
      show (look (dropN (keepQ q1 (Go.Proofs.YtbodkjifpmencaaGreat.chL q1 d)).changes d) d).getD [] = []
      rw [look_drop_same]; rfl
    have hc2 : ∀ e, e ≠ d → Go.Proofs.YtbodkjifpmencaaGreat.chL { keepQ q1 (Go.Proofs.YtbodkjifpmencaaGreat.chL q1 d) with changes := dropN (keepQ q1 (Go.Proofs.YtbodkjifpmencaaGreat.chL q1 d)).changes d } e = Go.Proofs.YtbodkjifpmencaaGreat.chL q1 e := fun e he => by
      show (look (dropN (keepQ q1 (Go.Proofs.YtbodkjifpmencaaGreat.chL q1 d)).changes d) e).getD [] = (look q1.changes e).getD []
      rw [look_drop_far he, s2]
    have hd1 : inD d (keepQ q1 (Go.Proofs.YtbodkjifpmencaaGreat.chL q1 d)).kept = inD d q1.names := by
      rw [hk, inD_all d _ (fun c hc => ⟨(hcs c hc).1, (hcs c hc).2.1⟩), h1.names]
    have hd2 : ∀ e, e ≠ d → inD e (keepQ q1 (Go.Proofs.YtbodkjifpmencaaGreat.chL q1 d)).kept = inD e q1.kept := fun e he => by
      rw [hk, inD_allfar e d (Ne.symm he) _ (fun c hc => ⟨(hcs c hc).1, (hcs c hc).2.1⟩)]
    refine ⟨?_, ?_, fun e => ?_, fun e n hn => ?_⟩
    · show ∀ x ∈ (keepQ q1 _).kept, _
      rw [hk]
      exact h1.keptOf _ (fun c hc k hk => by rw [(hcs c hc).2.1]; exact (hcs c hc).2.2 k hk) h1.kept
    · intro x hx
      have hx' : x ∈ dropN (keepQ q1 (Go.Proofs.YtbodkjifpmencaaGreat.chL q1 d)).changes d := hx
      rw [s2] at hx'
      exact h1.chg x (mem_drop hx')
    · by_cases he : e = d
      · subst he
        rw [hc1]
        show inD e (keepQ q1 _).names = inD e (keepQ q1 _).kept
        rw [hd1, s1]
      · rw [hc2 e he]
        show inD e (keepQ q1 _).names = appAll _ (inD e (keepQ q1 _).kept)
        rw [hd2 e he, s1, h1.names]
    · by_cases he : e = d
      · subst he
        rw [hc1] at hn ⊢
        show ((appAll _ (inD e (keepQ q1 _).kept)).map (·.2)).Nodup
        rw [hd1, List.take_nil]
        exact h1.inDnames e
      · rw [hc2 e he] at hn ⊢
        show ((appAll _ (inD e (keepQ q1 _).kept)).map (·.2)).Nodup
        rw [hd2 e he]
        exact h1.inj e n hn
  · exact h1
end Go.Proofs.YtbodkjifpmencaaGreat
