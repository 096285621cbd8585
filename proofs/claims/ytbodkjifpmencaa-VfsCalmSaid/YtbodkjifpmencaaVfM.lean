/-
  A disk where all is kept: what a crash, an append with its sync, a directory's sync do there; names are right paths. No conditions.
-/
import Derived.Test.YtbodkjifpmencaaVfL
namespace Go.Proofs.Ytbodkjifpmencaa

/-- All that is named, or may be, is a right path. -/
structure Rt (q : Q) : Prop where
  names : ∀ x ∈ q.names, rightL x.1 = true
  kept : ∀ x ∈ q.kept, rightL x.1 = true
  chg : ∀ x ∈ q.changes, ∀ c ∈ x.2, ∀ k, c.body = some k → rightL c.to = true
theorem Rt.same {q q' : Q} (H : Rt q) (h1 : q'.names = q.names) (h2 : q'.kept = q.kept) (h3 : q'.changes = q.changes) : Rt q' :=
  ⟨by rw [h1]; exact H.names, by rw [h2]; exact H.kept, by rw [h3]; exact H.chg⟩
theorem Rt.new (room : Int) : Rt (qNew room) := ⟨(fun x hx => by cases hx), (fun x hx => by cases hx), (fun x hx => by cases hx)⟩
theorem Rt.begin {q : Q} (H : Rt q) (r : Bool) : Rt (beginQ q r).2 := by
  obtain ⟨h1, h2, h3, _⟩ := begin_keeps q r
  exact H.same h1 h2 h3
theorem Rt.chL {q : Q} (H : Rt q) (d : Bs) : ∀ c ∈ Go.Proofs.Ytbodkjifpmencaa.chL q d, ∀ k, c.body = some k → rightL c.to = true := by
  intro c hc
  unfold Go.Proofs.Ytbodkjifpmencaa.chL at hc
  cases hl : look q.changes d with
  | none => rw [hl] at hc; cases hc
  | some cs => rw [hl] at hc; exact H.chg _ (look_mem hl) c hc
theorem Rt.change {q : Q} (H : Rt q) (frm tgt : Bs) (o : Option Nat) (ht : ∀ k, o = some k → rightL tgt = true) : Rt (changeQ q frm tgt o) := by
  refine ⟨fun x hx => ?_, H.kept, fun x hx c hc k hk => ?_⟩
  · rcases mem_applyN (c := ⟨frm, tgt, o⟩) hx with hx | ⟨h1, h2⟩
    · exact H.names x hx
    · rw [h1]; exact ht _ h2
  · rcases mem_put hx with hx | rfl
    · exact H.chg x hx c hc k hk
    · rcases List.mem_append.1 hc with hc | hc
      · exact H.chL _ c hc k hk
      · simp at hc; subst hc; exact ht k hk
theorem Rt.keepQ {q : Q} (cs : List QC) (h : ∀ x ∈ q.kept, rightL x.1 = true) (hc : ∀ c ∈ cs, ∀ k, c.body = some k → rightL c.to = true) : ∀ x ∈ (Go.Proofs.Ytbodkjifpmencaa.keepQ q cs).kept, rightL x.1 = true := by
  intro x hx
  rw [keepQ_kept] at hx
  rcases mem_appAll hx with hx | ⟨c, hm, h1, h2⟩
  · exact h x hx
  · rw [h1]; exact hc c hm _ h2
theorem Rt.write {q : Q} (H : Rt q) (p b : Bs) : Rt (writeQ q p b).2 := by
  have h1 := H.begin (rightL p)
  have h2 := begin_err q (rightL p)
  unfold writeQ
  rcases hb : beginQ q (rightL p) with ⟨e, q1⟩
  rw [hb] at h1 h2
  dsimp only at *
  split
  · have hr : rightL p = true := by rcases h2 with h | h | h <;> simp_all
    split
    · obtain ⟨n1, n2, n3⟩ := extend_same { q1 with bodies := q1.bodies ++ [⟨[], 0⟩] } q1.bodies.length b
      have H2 : Rt (newBodyQ q1 b) := h1.same n1 n2 n3
      exact H2.change p p _ (fun _ _ => hr)
    · exact h1
  · exact h1
theorem Rt.append {q : Q} (H : Rt q) (p b : Bs) : Rt (appendQ q p b).2 := by
  have h1 := H.begin (rightL p)
  unfold appendQ
  rcases hb : beginQ q (rightL p) with ⟨e, q1⟩
  rw [hb] at h1
  dsimp only at *
  split
  · split
    · exact h1
    · split
      · obtain ⟨n1, n2, n3⟩ := extend_same q1 _ b
        exact h1.same n1 n2 n3
      · exact h1
  · exact h1
theorem Rt.sync {q : Q} (H : Rt q) (p : Bs) : Rt (syncQ q p).2 := by
  have h1 := H.begin (rightL p)
  unfold syncQ
  rcases hb : beginQ q (rightL p) with ⟨e, q1⟩
  rw [hb] at h1
  dsimp only at *
  split
  · split
    · exact h1
    · exact h1.same rfl rfl rfl
  · exact h1
theorem Rt.remove {q : Q} (H : Rt q) (p : Bs) : Rt (removeQ q p).2 := by
  have h1 := H.begin (rightL p)
  unfold removeQ
  rcases hb : beginQ q (rightL p) with ⟨e, q1⟩
  rw [hb] at h1
  dsimp only at *
  split
  · split
    · exact h1
    · exact h1.change p p none (fun k hk => by cases hk)
  · exact h1
theorem Rt.rename {q : Q} (H : Rt q) (p t : Bs) : Rt (renameQ q p t).2 := by
  have h1 := H.begin (rightL p && rightL t && dirL p == dirL t)
  have h2 := begin_err q (rightL p && rightL t && dirL p == dirL t)
  unfold renameQ
  rcases hb : beginQ q (rightL p && rightL t && dirL p == dirL t) with ⟨e, q1⟩
  rw [hb] at h1 h2
  dsimp only at *
  split
  · have hr : (rightL p && rightL t && dirL p == dirL t) = true := by rcases h2 with h | h | h <;> simp_all
    simp only [Bool.and_eq_true, beq_iff_eq] at hr
    split
    · exact h1
    · dsimp only
      split
      · exact h1
      · exact h1.change p t _ (fun _ _ => hr.1.2)
  · exact h1
theorem Rt.syncDir {q : Q} (H : Rt q) (d : Bs) : Rt (syncDirQ q d).2 := by
  have h1 := H.begin (d == [] || isPartL d)
  unfold syncDirQ
  rcases hb : beginQ q (d == [] || isPartL d) with ⟨e, q1⟩
  rw [hb] at h1
  dsimp only at *
  split
  · obtain ⟨s1, s2, _⟩ := keepQ_same q1 (Go.Proofs.Ytbodkjifpmencaa.chL q1 d)
    change Rt { Go.Proofs.Ytbodkjifpmencaa.keepQ q1 (Go.Proofs.Ytbodkjifpmencaa.chL q1 d) with changes := dropN (Go.Proofs.Ytbodkjifpmencaa.keepQ q1 (Go.Proofs.Ytbodkjifpmencaa.chL q1 d)).changes d }
    refine ⟨?_, Rt.keepQ _ h1.kept (h1.chL d), fun x hx => ?_⟩
    · show ∀ x ∈ (Go.Proofs.Ytbodkjifpmencaa.keepQ q1 _).names, _
      rw [s1]; exact h1.names
    · have hx' : x ∈ dropN (Go.Proofs.Ytbodkjifpmencaa.keepQ q1 (Go.Proofs.Ytbodkjifpmencaa.chL q1 d)).changes d := hx
      rw [s2] at hx'
      exact h1.chg x (mem_drop hx')
  · exact h1
theorem Rt.crash {q : Q} (H : Rt q) {N : Nat} (hS : Small N q) (ks : List Int) : Rt (crashQ q ks) := by
  have hA := stayAll_inv hS ks (looseS q) _ (Nat.le_refl _)
  rw [← crashA_eq] at hA
  obtain ⟨s, hs⟩ : ∃ s, crashA q ks = s := ⟨_, rfl⟩
  rw [hs] at hA
  have hk0 : ∀ x ∈ s.1.kept, rightL x.1 = true := by rw [hA.kept]; exact H.kept
  have hc0 : ∀ d, ∀ c ∈ (look s.1.changes d).getD [], ∀ k, c.body = some k → rightL c.to = true := fun d => by rw [hA.changes]; exact H.chL d
  have hall : ∀ k, k ≤ (dirsS s.1).length → (dirAll ({ s.1 with loose := [] }, s.2) (dirsS s.1) k).1.changes = s.1.changes ∧ ∀ x ∈ (dirAll ({ s.1 with loose := [] }, s.2) (dirsS s.1) k).1.kept, rightL x.1 = true := by
    intro k
    induction k with
    | zero => intro _; exact ⟨rfl, hk0⟩
    | succ k ih =>
      intro hk
      obtain ⟨h1, h2⟩ := ih (by omega)
      rw [dirAll_succ _ _ _ (by omega)]
      refine ⟨(keepQ_same _ _).2.1.trans h1, Rt.keepQ _ h2 (fun c hc => ?_)⟩
      have := List.mem_of_mem_take hc
      rw [h1] at this
      exact hc0 _ c this
  have h := (hall _ (Nat.le_refl _)).2
  rw [← crashB_eq] at h
  unfold crashQ
  rw [hs]
  exact ⟨h, h, fun x hx => by cases hx⟩
/-! ### Calm -/
structure Calm (q : Q) : Prop where
  changes : q.changes = []
  loose : q.loose = []
  kept : q.kept = q.names
  told : q.told = false
theorem crash_loose (q : Q) {N : Nat} (hS : Small N q) (ks : List Int) : (crashQ q ks).loose = [] := by
  have h := (dirAll_inv (N := N) (q := { (crashA q ks).1 with loose := [] }) (by
    have hA := stayAll_inv hS ks (looseS q) _ (Nat.le_refl _)
    rw [← crashA_eq] at hA
    have h := hA.small
    exact ⟨h.nb, h.nn, h.nk, h.nc, Nat.zero_le _, h.now, h.kn, h.kk, h.kc, (fun x hx => by cases hx), h.r0, h.r1, h.a0, h.a1, h.dn, h.dk, h.dc, List.nodup_nil⟩) (crashA q ks).2 (dirsS (crashA q ks).1) _ (Nat.le_refl _)).loose
  rw [← crashB_eq] at h
  exact h
theorem calm_crash (q : Q) {N : Nat} (hS : Small N q) (ks : List Int) : Calm (crashQ q ks) := ⟨rfl, crash_loose q hS ks, rfl, rfl⟩
theorem crash_calm {q : Q} (C : Calm q) (ks : List Int) : crashQ q ks = { q with ahead := 0, once := false } := by
  have hA : crashA q ks = (q, ks) := by unfold crashA; rw [C.loose]; simp
  have hB : crashB (q, ks) = ({ q with loose := [] }, ks) := by unfold crashB; dsimp only; rw [C.changes]; simp
  unfold crashQ
  rw [hA, hB]
  obtain ⟨a, b, c, d, e, f, g, i, j⟩ := q
  obtain ⟨h1, h2, h3, h4⟩ := C
  dsimp only at h1 h2 h3 h4
  subst h1 h2 h3 h4
  rfl
theorem begin_calm {q : Q} (C : Calm q) (r : Bool) (hr : r = true) : beginQ q r = (0, q) := by
  unfold beginQ
  rw [if_pos hr]
  unfold strikeQ
  rw [if_neg (by rw [C.told]; decide)]
theorem calm_append {q : Q} (C : Calm q) {p : Bs} {k : Nat} (hp : rightL p = true) (hk : look q.names p = some k) (hu : (usedQ q : Int) + 1 ≤ q.room) : appendQ q p [120] = (0, extendQ q k [120]) := by
  unfold appendQ
  rw [begin_calm C _ hp]
  dsimp only
  rw [if_pos rfl, hk]
  dsimp only
  rw [if_pos]
  unfold hasRoomQ
  exact decide_eq_true (by show ((1 : Nat) : Int) ≤ q.room - (usedQ q : Int); omega)
theorem calm_sync {q : Q} (C : Calm q) {p : Bs} {k : Nat} (hp : rightL p = true) (hk : look q.names p = some k) (b : Bs) : syncQ (extendQ q k b) p = (0, { q with bodies := (extendQ q k b).bodies.set k ⟨(qbody (extendQ q k b) k).now, (qbody (extendQ q k b) k).now.length⟩ }) := by
  obtain ⟨n1, n2, n3⟩ := extend_same q k b
  have ht : (extendQ q k b).told = false := by unfold extendQ; split <;> exact C.told
  have hb : beginQ (extendQ q k b) (rightL p) = (0, extendQ q k b) := by
    unfold beginQ
    rw [if_pos hp]
    unfold strikeQ
    rw [if_neg (by rw [ht]; decide)]
  unfold syncQ
  rw [hb]
  dsimp only
  rw [if_pos rfl, n1, hk]
  dsimp only
  have hl : dropN (extendQ q k b).loose k = q.loose := by
    unfold extendQ
    split
    · rw [C.loose]; rfl
    · dsimp only; rw [C.loose]; simp [putN, dropN]
  rw [hl]
  unfold extendQ
  split <;> rfl
theorem calm_after {q : Q} (C : Calm q) (B : List QB) : Calm { q with bodies := B } := ⟨C.changes, C.loose, C.kept, C.told⟩
theorem calm_syncDir {q : Q} (C : Calm q) (d : Bs) (hd : (d == [] || isPartL d) = true) : syncDirQ q d = (0, q) := by
  unfold syncDirQ
  rw [begin_calm C _ hd]
  dsimp only
  rw [if_pos rfl]
  have h : (look q.changes d).getD [] = [] := by rw [C.changes]; rfl
  rw [h]
  show ((0 : Int), ({ q with changes := dropN q.changes d } : Q)) = (0, q)
  obtain ⟨a, b, c, d', e, f, g, i, j⟩ := q
  obtain ⟨h1, h2, h3, h4⟩ := C
  dsimp only at h1
  subst h1
  rfl
end Go.Proofs.Ytbodkjifpmencaa
