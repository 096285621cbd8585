/-
  A file that is kept stays, whatever acts on other files, and crashes, do. No conditions.
-/
import Derived.Test.YtbodkjifpmencaaGreatY13
namespace Go.Proofs.YtbodkjifpmencaaGreat

/-- The path P names body k, now and in what is kept; nothing else does, or will by a change that isn't kept. -/
structure HeldX (P : Bs) (k : Nat) (q : Q) : Prop where
  name : look q.names P = some k
  kname : look q.kept P = some k
  klt : k < q.bodies.length
  only : ∀ x ∈ q.names, x.2 = k → x.1 = P
  konly : ∀ x ∈ q.kept, x.2 = k → x.1 = P
  chg : ∀ x ∈ q.changes, ∀ c ∈ x.2, c.frm ≠ P ∧ c.to ≠ P ∧ c.body ≠ some k
/-- And all its bytes are kept. -/
structure Held (P : Bs) (k : Nat) (b : Bs) (q : Q) : Prop extends HeldX P k q where
  body : qbody q k = ⟨b, b.length⟩
  loose : ∀ x ∈ q.loose, x.1 ≠ k
theorem HeldX.same {P : Bs} {k : Nat} {q q' : Q} (H : HeldX P k q) (h1 : q'.names = q.names) (h2 : q'.kept = q.kept) (h3 : q'.changes = q.changes) (h4 : q'.bodies.length = q.bodies.length) : HeldX P k q' :=
  ⟨by rw [h1]; exact H.name, by rw [h2]; exact H.kname, by rw [h4]; exact H.klt, by rw [h1]; exact H.only, by rw [h2]; exact H.konly, by rw [h3]; exact H.chg⟩
theorem strike_same (q : Q) : (strikeQ q).2.names = q.names ∧ (strikeQ q).2.kept = q.kept ∧ (strikeQ q).2.changes = q.changes ∧ (strikeQ q).2.bodies = q.bodies ∧ (strikeQ q).2.loose = q.loose := by
  unfold strikeQ
  split
  · split <;> exact ⟨rfl, rfl, rfl, rfl, rfl⟩
  · exact ⟨rfl, rfl, rfl, rfl, rfl⟩
theorem begin_same5 (q : Q) (r : Bool) : (beginQ q r).2.names = q.names ∧ (beginQ q r).2.kept = q.kept ∧ (beginQ q r).2.changes = q.changes ∧ (beginQ q r).2.bodies = q.bodies ∧ (beginQ q r).2.loose = q.loose := by
  rw [begin_snd]
  split
  · exact strike_same q
  · exact ⟨rfl, rfl, rfl, rfl, rfl⟩
theorem Held.begin {P : Bs} {k : Nat} {b : Bs} {q : Q} (H : Held P k b q) (r : Bool) : Held P k b (beginQ q r).2 := by
  obtain ⟨h1, h2, h3, h4, h5⟩ := begin_same5 q r
  exact ⟨H.toHeldX.same h1 h2 h3 (by rw [h4]), by unfold qbody; rw [h4]; exact H.body, by rw [h5]; exact H.loose⟩
theorem qbody_set_far {q q' : Q} {j k : Nat} {x : QB} (h : q'.bodies = q.bodies.set j x) (hj : k ≠ j) : qbody q' k = qbody q k := by
  unfold qbody
  rw [h, List.getD_eq_getElem?_getD, List.getD_eq_getElem?_getD, List.getElem?_set_ne (Ne.symm hj)]
theorem find_far (l : Nm) {p P : Bs} (h : p ≠ P) : (l.filter fun x => decide (x.1 ≠ p)).find? (fun x => decide (x.1 = P)) = l.find? (fun x => decide (x.1 = P)) := by
  rw [List.find?_filter]
  congr 1
  funext x
  by_cases hx : x.1 = P
  · simp [hx, Ne.symm h]
  · simp [hx]
theorem look_applyN_far {c : QC} {l : Nm} {P : Bs} (h1 : c.frm ≠ P) (h2 : c.to ≠ P) : look (applyN c l) P = look l P := by
  have hd : ∀ (l : Nm) (p : Bs), p ≠ P → look (dropN l p) P = look l P := fun l p hp => by
    unfold look dropN
    rw [find_far l hp]
  unfold applyN
  cases c.body with
  | none => exact hd l _ h1
  | some k =>
    show look (putN (dropN l c.frm) c.to k) P = _
    unfold putN
    have ha : look (dropN (dropN l c.frm) c.to ++ [(c.to, k)]) P = look (dropN (dropN l c.frm) c.to) P := by
      unfold look
      rw [List.find?_append]
      cases (dropN (dropN l c.frm) c.to).find? (fun x => decide (x.1 = P)) with
      | some _ => rfl
      | none => simp [h2]
    rw [ha, hd _ _ h2, hd _ _ h1]
theorem HeldX.change {P : Bs} {k : Nat} {q : Q} (H : HeldX P k q) (frm tgt : Bs) (o : Option Nat) (h1 : frm ≠ P) (h2 : tgt ≠ P) (h3 : o ≠ some k) : HeldX P k (changeQ q frm tgt o) := by
  refine ⟨?_, H.kname, H.klt, fun x hx hk => ?_, H.konly, fun x hx c hc => ?_⟩
  · show look (applyN ⟨frm, tgt, o⟩ q.names) P = some k
    rw [look_applyN_far h1 h2]
    exact H.name
  · rcases mem_applyN (c := ⟨frm, tgt, o⟩) hx with hx | ⟨_, h⟩
    · exact H.only x hx hk
    · exact absurd (h.trans (by rw [hk])) h3
  · rcases mem_put hx with hx | rfl
    · exact H.chg x hx c hc
    · rcases List.mem_append.1 hc with hc | hc
      · cases hl : look q.changes (dirL frm) with
        | none => rw [hl] at hc; cases hc
        | some cs => rw [hl] at hc; exact H.chg _ (look_mem hl) c hc
      · simp at hc
        subst hc
        exact ⟨h1, h2, h3⟩
theorem HeldX.other {P : Bs} {k : Nat} {q : Q} (H : HeldX P k q) {p : Bs} {j : Nat} (hp : p ≠ P) (hj : look q.names p = some j) : k ≠ j := fun e => hp (H.only (p, j) (look_mem hj) e.symm)
theorem Held.extend {P : Bs} {k : Nat} {b : Bs} {q : Q} (H : Held P k b q) (j : Nat) (b' : Bs) (hj : k ≠ j) : Held P k b (extendQ q j b') := by
  obtain ⟨n1, n2, n3⟩ := extend_same q j b'
  refine ⟨H.toHeldX.same n1 n2 n3 (by unfold extendQ; split <;> simp), ?_, ?_⟩
  · unfold extendQ
    split
    · exact H.body
    · exact (qbody_set_far rfl hj).trans H.body
  · unfold extendQ
    split
    · exact H.loose
    · intro x hx
      rcases mem_put hx with hx | rfl
      · exact H.loose x hx
      · exact Ne.symm hj
theorem Held.write {P : Bs} {k : Nat} {b : Bs} {q : Q} (H : Held P k b q) (p b' : Bs) (hp : p ≠ P) : Held P k b (writeQ q p b').2 := by
  have h1 := H.begin (rightL p)
  unfold writeQ
  rcases hb : beginQ q (rightL p) with ⟨e, q1⟩
  rw [hb] at h1
  dsimp only at *
  split
  · split
    · have hk : k ≠ q1.bodies.length := by have := h1.klt; omega
      have h2 : Held P k b { q1 with bodies := q1.bodies ++ [⟨[], 0⟩] } := by
        refine ⟨⟨h1.name, h1.kname, by have := h1.klt; simp; omega, h1.only, h1.konly, h1.chg⟩, ?_, h1.loose⟩
        have h := h1.body
        unfold qbody at h ⊢
        rw [← h, List.getD_eq_getElem?_getD, List.getD_eq_getElem?_getD, List.getElem?_append_left h1.klt]
      have h3 := h2.extend q1.bodies.length b' hk
      exact ⟨h3.toHeldX.change p p _ hp hp (fun e => hk (Option.some.inj e).symm), h3.body, h3.loose⟩
    · exact h1
  · exact h1
theorem Held.append {P : Bs} {k : Nat} {b : Bs} {q : Q} (H : Held P k b q) (p b' : Bs) (hp : p ≠ P) : Held P k b (appendQ q p b').2 := by
  have h1 := H.begin (rightL p)
  unfold appendQ
  rcases hb : beginQ q (rightL p) with ⟨e, q1⟩
  rw [hb] at h1
  dsimp only at *
  split
  · split
    · exact h1
    · rename_i j hj
      split
      · exact h1.extend j b' (h1.toHeldX.other hp hj)
      · exact h1
  · exact h1
theorem Held.rename {P : Bs} {k : Nat} {b : Bs} {q : Q} (H : Held P k b q) (p t : Bs) (hp : p ≠ P) (ht : t ≠ P) : Held P k b (renameQ q p t).2 := by
  have h1 := H.begin (rightL p && rightL t && dirL p == dirL t)
  unfold renameQ
  rcases hb : beginQ q (rightL p && rightL t && dirL p == dirL t) with ⟨e, q1⟩
  rw [hb] at h1
  dsimp only at *
  split
  · split
    · exact h1
    · rename_i j hj
      dsimp only
      split
      · exact h1
      · exact ⟨h1.toHeldX.change p t _ hp ht (fun e => h1.toHeldX.other hp hj (Option.some.inj e).symm), h1.body, h1.loose⟩
  · exact h1
theorem Held.remove {P : Bs} {k : Nat} {b : Bs} {q : Q} (H : Held P k b q) (p : Bs) (hp : p ≠ P) : Held P k b (removeQ q p).2 := by
  have h1 := H.begin (rightL p)
  unfold removeQ
  rcases hb : beginQ q (rightL p) with ⟨e, q1⟩
  rw [hb] at h1
  dsimp only at *
  split
  · split
    · exact h1
    · exact ⟨h1.toHeldX.change p p none hp hp (by simp), h1.body, h1.loose⟩
  · exact h1
theorem Held.sync {P : Bs} {k : Nat} {b : Bs} {q : Q} (H : Held P k b q) (p : Bs) (hp : p ≠ P) : Held P k b (syncQ q p).2 := by
  have h1 := H.begin (rightL p)
  unfold syncQ
  rcases hb : beginQ q (rightL p) with ⟨e, q1⟩
  rw [hb] at h1
  dsimp only at *
  split
  · split
    · exact h1
    · rename_i j hj
      have hk := h1.toHeldX.other hp hj
      exact ⟨h1.toHeldX.same rfl rfl rfl (by simp), (qbody_set_far rfl hk).trans h1.body, fun x hx => h1.loose x (mem_drop hx)⟩
  · exact h1
theorem HeldX.keep1 {P : Bs} {k : Nat} {q : Q} (H : HeldX P k q) (c : QC) (hc : c.frm ≠ P ∧ c.to ≠ P ∧ c.body ≠ some k) : HeldX P k (keep1Q q c) ∧ qbody (keep1Q q c) k = qbody q k ∧ (keep1Q q c).loose = q.loose ∧ (keep1Q q c).changes = q.changes := by
  have hk : look (applyN c q.kept) P = some k := by rw [look_applyN_far hc.1 hc.2.1]; exact H.kname
  have ho : ∀ x ∈ applyN c q.kept, x.2 = k → x.1 = P := fun x hx he => by
    rcases mem_applyN hx with hx | ⟨_, h⟩
    · exact H.konly x hx he
    · exact absurd (h.trans (by rw [he])) hc.2.2
  unfold keep1Q goneQ
  cases hl : look q.kept c.to with
  | none => exact ⟨⟨H.name, hk, H.klt, H.only, ho, H.chg⟩, rfl, rfl, rfl⟩
  | some g =>
    have hg : k ≠ g := fun e => hc.2.1 (H.konly (c.to, g) (look_mem hl) e.symm)
    exact ⟨⟨H.name, hk, by show k < (List.set _ _ _).length; rw [List.length_set]; exact H.klt, H.only, ho, H.chg⟩, qbody_set_far rfl hg, rfl, rfl⟩
theorem HeldX.keepQ {P : Bs} {k : Nat} : ∀ (cs : List QC) {q : Q}, HeldX P k q → (∀ c ∈ cs, c.frm ≠ P ∧ c.to ≠ P ∧ c.body ≠ some k) → HeldX P k (Go.Proofs.YtbodkjifpmencaaGreat.keepQ q cs) ∧ qbody (Go.Proofs.YtbodkjifpmencaaGreat.keepQ q cs) k = qbody q k
  | [], _, H, _ => ⟨H, rfl⟩
  | c :: cs, q, H, hc => by
    obtain ⟨h1, h2, _, _⟩ := H.keep1 c (hc c (by simp))
    obtain ⟨h3, h4⟩ := HeldX.keepQ cs h1 (fun c' hc' => hc c' (by simp [hc']))
    exact ⟨h3, h4.trans h2⟩
theorem HeldX.chl {P : Bs} {k : Nat} {q : Q} (H : HeldX P k q) (d : Bs) : ∀ c ∈ (look q.changes d).getD [], c.frm ≠ P ∧ c.to ≠ P ∧ c.body ≠ some k := fun c hc => by
  cases hl : look q.changes d with
  | none => rw [hl] at hc; cases hc
  | some cs => rw [hl] at hc; exact H.chg _ (look_mem hl) c hc
theorem Held.syncDir {P : Bs} {k : Nat} {b : Bs} {q : Q} (H : Held P k b q) (d : Bs) : Held P k b (syncDirQ q d).2 := by
  have h1 := H.begin (d == [] || isPartL d)
  unfold syncDirQ
  rcases hb : beginQ q (d == [] || isPartL d) with ⟨e, q1⟩
  rw [hb] at h1
  dsimp only at *
  split
  · obtain ⟨h2, h3⟩ := h1.toHeldX.keepQ _ (h1.toHeldX.chl d)
    have hl := (keepQ_same q1 ((look q1.changes d).getD [])).2.2.1
    exact ⟨⟨h2.name, h2.kname, h2.klt, h2.only, h2.konly, fun x hx => h2.chg x (mem_drop hx)⟩, h3.trans h1.body, fun x hx => h1.loose x (hl ▸ hx)⟩
  · exact h1
theorem Held.try {P : Bs} {k : Nat} {b : Bs} {q : Q} (H : Held P k b q) (o : OpR) (hp : o.path.data.toList ≠ P) (ht : o.tgt.data.toList ≠ P) : Held P k b (tryQ q o).2 := by
  unfold tryQ
  split
  · exact H.write _ _ hp
  · split
    · exact H.append _ _ hp
    · split
      · exact H.rename _ _ hp ht
      · split
        · exact H.remove _ hp
        · split
          · exact H.sync _ hp
          · exact H.syncDir _
/-! ### A crash -/
/-- What a crash leaves of a body's bytes. -/
def Stays (x y : QB) : Prop := y = x ∨ ∃ m, x.kept ≤ m ∧ m ≤ x.now.length ∧ y = ⟨x.now.take m, m⟩
theorem Stays.step {x y : QB} (h : Stays x y) (n : Nat) (hx : x.kept ≤ x.now.length) (hn : n ≤ y.now.length - y.kept) : Stays x ⟨y.now.take (y.kept + n), y.kept + n⟩ := by
  rcases h with rfl | ⟨m, h1, h2, rfl⟩
  · exact .inr ⟨y.kept + n, by omega, by omega, rfl⟩
  · have hl : (x.now.take m).length = m := by rw [List.length_take]; omega
    dsimp only at hn ⊢
    rw [hl] at hn
    obtain rfl : n = 0 := by omega
    exact .inr ⟨m, h1, h2, by rw [Nat.add_zero, List.take_take]; simp⟩
theorem HeldX.stayAll {P : Bs} {k : Nat} {q : Q} (H : HeldX P k q) (hx : (qbody q k).kept ≤ (qbody q k).now.length) (ks : List Int) (l : List Nat) : ∀ i, i ≤ l.length → HeldX P k (Go.Proofs.YtbodkjifpmencaaGreat.stayAll q ks l i).1 ∧ Stays (qbody q k) (qbody (Go.Proofs.YtbodkjifpmencaaGreat.stayAll q ks l i).1 k) ∧ ((∀ x ∈ l, x ≠ k) → qbody (Go.Proofs.YtbodkjifpmencaaGreat.stayAll q ks l i).1 k = qbody q k) := by
  intro i
  induction i with
  | zero => intro _; exact ⟨H, .inl rfl, fun _ => rfl⟩
  | succ i ih =>
    intro hi
    obtain ⟨h1, h2, h3⟩ := ih (by omega)
    rw [stayAll_succ _ _ _ _ (by omega)]
    generalize Go.Proofs.YtbodkjifpmencaaGreat.stayAll q ks l i = s at *
    unfold stay1Q
    dsimp only
    refine ⟨h1.same rfl rfl rfl (by simp), ?_, fun hl => ?_⟩
    · by_cases hk : l[i] = k
      · rw [hk]
        have hq : qbody ({ s.1 with bodies := s.1.bodies.set k ⟨(qbody s.1 k).now.take ((qbody s.1 k).kept + (nextQ s.2 ((qbody s.1 k).now.length - (qbody s.1 k).kept)).1), (qbody s.1 k).kept + (nextQ s.2 ((qbody s.1 k).now.length - (qbody s.1 k).kept)).1⟩ } : Q) k = ⟨(qbody s.1 k).now.take ((qbody s.1 k).kept + (nextQ s.2 ((qbody s.1 k).now.length - (qbody s.1 k).kept)).1), (qbody s.1 k).kept + (nextQ s.2 ((qbody s.1 k).now.length - (qbody s.1 k).kept)).1⟩ := by
          show List.getD (List.set _ _ _) _ _ = _
          rw [List.getD_eq_getElem?_getD, List.getElem?_set_self h1.klt]
          rfl
        rw [hq]
        exact h2.step _ hx (next_le _ _)
      · exact cast (congrArg (Stays (qbody q k)) (qbody_set_far (q := s.1) (j := l[i]) rfl (Ne.symm hk)).symm) h2
    · exact (qbody_set_far (q := s.1) (j := l[i]) rfl (Ne.symm (hl _ (List.getElem_mem (by omega))))).trans (h3 hl)
theorem HeldX.dirAll {P : Bs} {k : Nat} (s : Q × List Int) (l : List Bs) (H : HeldX P k s.1) : ∀ i, i ≤ l.length → HeldX P k (Go.Proofs.YtbodkjifpmencaaGreat.dirAll s l i).1 ∧ qbody (Go.Proofs.YtbodkjifpmencaaGreat.dirAll s l i).1 k = qbody s.1 k := by
  intro i
  induction i with
  | zero => intro _; exact ⟨H, rfl⟩
  | succ i ih =>
    intro hi
    obtain ⟨h1, h2⟩ := ih (by omega)
    rw [dirAll_succ _ _ _ (by omega)]
    generalize Go.Proofs.YtbodkjifpmencaaGreat.dirAll s l i = t at *
    unfold keepDir1Q
    dsimp only
    obtain ⟨h3, h4⟩ := h1.keepQ _ (fun c hc => h1.chl _ c (List.mem_of_mem_take hc))
    exact ⟨h3, h4.trans h2⟩
theorem HeldX.crash {P : Bs} {k : Nat} {q : Q} (H : HeldX P k q) (hx : (qbody q k).kept ≤ (qbody q k).now.length) (ks : List Int) : HeldX P k (crashQ q ks) ∧ Stays (qbody q k) (qbody (crashQ q ks) k) ∧ ((∀ x ∈ q.loose, x.1 ≠ k) → qbody (crashQ q ks) k = qbody q k) := by
  obtain ⟨a1, a2, a3⟩ := H.stayAll hx ks (looseS q) _ (Nat.le_refl _)
  rw [← crashA_eq] at a1 a2 a3
  have hB : HeldX P k ({ (crashA q ks).1 with loose := [] } : Q) := a1.same rfl rfl rfl rfl
  obtain ⟨b1, b2⟩ := HeldX.dirAll ({ (crashA q ks).1 with loose := [] }, (crashA q ks).2) (dirsS (crashA q ks).1) hB _ (Nat.le_refl _)
  rw [← crashB_eq] at b1 b2
  have hb : qbody (crashQ q ks) k = qbody (crashA q ks).1 k := b2
  refine ⟨⟨b1.kname, b1.kname, b1.klt, b1.konly, b1.konly, fun x hx => by cases hx⟩, by rw [hb]; exact a2, fun hl => by
    rw [hb]
    refine a3 (fun x hx => ?_)
    obtain ⟨y, hy, rfl⟩ := List.mem_map.1 (looseS_mem hx)
    exact hl y hy⟩
theorem crashQ_loose (q : Q) {N : Nat} (hS : Small N q) (ks : List Int) : (crashQ q ks).loose = [] := by
  have h := (dirAll_inv (N := N) (q := { (crashA q ks).1 with loose := [] }) (by
    have hA := stayAll_inv hS ks (looseS q) _ (Nat.le_refl _)
    rw [← crashA_eq] at hA
    have h := hA.small
    exact ⟨h.nb, h.nn, h.nk, h.nc, Nat.zero_le _, h.now, h.kn, h.kk, h.kc, (fun x hx => by cases hx), h.r0, h.r1, h.a0, h.a1, h.dn, h.dk, h.dc, List.nodup_nil⟩) (crashA q ks).2 (dirsS (crashA q ks).1) _ (Nat.le_refl _)).loose
  rw [← crashB_eq] at h
  exact h
theorem Held.crash {P : Bs} {k : Nat} {b : Bs} {q : Q} (H : Held P k b q) {N : Nat} (hS : Small N q) (ks : List Int) : Held P k b (crashQ q ks) := by
  obtain ⟨h1, _, h3⟩ := H.toHeldX.crash (by rw [H.body]; exact Nat.le_refl _) ks
  exact ⟨h1, (h3 H.loose).trans H.body, by rw [crashQ_loose q hS ks]; intro x hx; cases hx⟩
theorem Held.read {P : Bs} {k : Nat} {b : Bs} {q : Q} (H : Held P k b q) : readQ q P = some b := by
  unfold readQ
  rw [H.name]
  show some (qbody q k).now = some b
  rw [H.body]
theorem Held.more {P : Bs} {k : Nat} {b : Bs} {q : Q} (H : Held P k b q) (m : Bs) : HeldX P k (appendQ q P m).2 ∧ (qbody (appendQ q P m).2 k = ⟨b, b.length⟩ ∨ qbody (appendQ q P m).2 k = ⟨b ++ m, b.length⟩) := by
  have h1 := H.begin (rightL P)
  unfold appendQ
  rcases hb : beginQ q (rightL P) with ⟨e, q1⟩
  rw [hb] at h1
  dsimp only at *
  split
  · split
    · exact ⟨h1.toHeldX, .inl h1.body⟩
    · rename_i j hj
      have hjk : j = k := Option.some.inj (hj.symm.trans h1.name)
      subst hjk
      split
      · obtain ⟨n1, n2, n3⟩ := extend_same q1 j m
        refine ⟨h1.toHeldX.same n1 n2 n3 (by unfold extendQ; split <;> simp), ?_⟩
        show qbody (extendQ q1 j m) j = _ ∨ qbody (extendQ q1 j m) j = _
        unfold extendQ
        split
        · exact .inl h1.body
        · refine .inr ?_
          show List.getD (List.set _ _ _) _ _ = _
          rw [List.getD_eq_getElem?_getD, List.getElem?_set_self h1.klt, h1.body]
          rfl
      · exact ⟨h1.toHeldX, .inl h1.body⟩
  · exact ⟨h1.toHeldX, .inl h1.body⟩
theorem HeldX.last {P : Bs} {k : Nat} {q : Q} (H : HeldX P k q) {b m : Bs} (hb : qbody q k = ⟨b, b.length⟩ ∨ qbody q k = ⟨b ++ m, b.length⟩) (ks : List Int) : ∃ r, readQ (crashQ q ks) P = some (b ++ r) := by
  obtain ⟨h1, h2, _⟩ := H.crash (by rcases hb with h | h <;> rw [h] <;> simp) ks
  have hr : readQ (crashQ q ks) P = some (qbody (crashQ q ks) k).now := by unfold readQ; rw [h1.name]; rfl
  rw [hr]
  rcases h2 with h | ⟨i, hi, hj, h⟩
  · rw [h]
    rcases hb with hb | hb <;> rw [hb]
    · exact ⟨[], by simp⟩
    · exact ⟨m, rfl⟩
  · rw [h]
    rcases hb with hb | hb
    · rw [hb] at hi hj ⊢
      have hi' : b.length ≤ i := hi
      exact ⟨[], by show some (List.take i b) = some (b ++ []); rw [List.take_of_length_le hi', List.append_nil]⟩
    · rw [hb] at hi hj ⊢
      refine ⟨m.take (i - b.length), ?_⟩
      show some (List.take i (b ++ m)) = _
      rw [List.take_append, List.take_of_length_le hi]
/-! ### The beginning -/
def keptP : Bs := [122, 47, 107, 101, 112, 116]
def q3K (b : Bs) : Q := ⟨1048576, [⟨b, b.length⟩], [(keptP, 0)], [(keptP, 0)], [], [], false, 0, false⟩
def q1K (b : Bs) : Q := ⟨1048576, [⟨b, 0⟩], [(keptP, 0)], [], [([122], [⟨keptP, keptP, some 0⟩])], if b = [] then [] else [(0, ())], false, 0, false⟩
def q2K (b : Bs) : Q := ⟨1048576, [⟨b, b.length⟩], [(keptP, 0)], [], [([122], [⟨keptP, keptP, some 0⟩])], [], false, 0, false⟩
theorem rightK : rightL keptP = true := by decide
theorem dirK : dirL keptP = [122] := by decide
theorem begin_plain {q : Q} (h : q.told = false) : beginQ q true = (0, q) := by
  unfold beginQ strikeQ
  rw [if_pos rfl, if_neg (by rw [h]; decide)]
theorem keeps_w (b : Bs) (hb : b.length ≤ 2000) : writeQ (qNew 1048576) keptP b = (0, q1K b) := by
  unfold writeQ
  rw [rightK, begin_plain rfl]
  dsimp only
  rw [if_pos rfl, if_pos (by
    unfold hasRoomQ
    refine decide_eq_true ?_
    show (b.length : Int) - ((0 : Nat) : Int) ≤ max (1048576 : Int) 0 - ((0 : Nat) : Int)
    omega)]
  unfold changeQ newBodyQ extendQ
  rw [dirK]
  by_cases h : b = []
  · subst h; rfl
  · rw [if_neg h]
    unfold q1K
    rw [if_neg h]
    rfl
theorem keeps_s (b : Bs) : syncQ (q1K b) keptP = (0, q2K b) := by
  unfold syncQ
  rw [rightK, begin_plain rfl]
  dsimp only
  rw [if_pos rfl]
  have hl : look (q1K b).names keptP = some 0 := by rfl
  rw [hl]
  dsimp only
  unfold q1K q2K
  by_cases h : b = []
  · subst h; rfl
  · rw [if_neg h]; rfl
theorem keeps_d (b : Bs) : syncDirQ (q2K b) [122] = (0, q3K b) := by
  unfold syncDirQ
  rw [show (([122] : Bs) == [] || isPartL [122]) = true by decide, begin_plain rfl]
  dsimp only
  rw [if_pos rfl]
  rfl
theorem held_start (b : Bs) : Held keptP 0 b (q3K b) :=
  ⟨⟨rfl, rfl, by show 0 < 1; decide, (fun x hx _ => by simp [q3K] at hx; rw [hx]), (fun x hx _ => by simp [q3K] at hx; rw [hx]), (fun x hx => by cases hx)⟩, rfl, (fun x hx => by cases hx)⟩
end Go.Proofs.YtbodkjifpmencaaGreat
