/-
  What an act that answers an error leaves; room; how many bytes are used behind an act. No conditions.
-/
import Derived.Test.YtbodkjifpmencaaGreatVfL
import Derived.Test.YtbodkjifpmencaaGreatVZH
namespace Go.Proofs.YtbodkjifpmencaaGreat

theorem begin_room (q : Q) (r : Bool) : (beginQ q r).2.room = q.room := by
  rw [begin_snd]
  split
  · unfold strikeQ
    split
    · split <;> rfl
    · rfl
  · rfl
/-- What is seen of a disk is as it was. -/
structure Seen (q q' : Q) : Prop where
  names : q'.names = q.names
  bodies : q'.bodies = q.bodies
theorem Seen.used {q q' : Q} (h : Seen q q') : usedQ q' = usedQ q := by unfold usedQ qbody; rw [h.names, h.bodies]
theorem Seen.list {q q' : Q} (h : Seen q q') (d : Bs) : listQ q' d = listQ q d := by unfold listQ; rw [h.names]
theorem Seen.read {q q' : Q} (h : Seen q q') (p : Bs) : readQ q' p = readQ q p := by unfold readQ qbody; rw [h.names, h.bodies]
theorem Seen.begin (q : Q) (r : Bool) : Seen q (beginQ q r).2 := ⟨(begin_keeps q r).1, (begin_keeps q r).2.2.2⟩
theorem seen_write (q : Q) (p b : Bs) (h : (writeQ q p b).1 ≠ 0) : Seen q (writeQ q p b).2 := by
  have h1 := Seen.begin q (rightL p)
  unfold writeQ at *
  rcases hb : beginQ q (rightL p) with ⟨e, q1⟩
  rw [hb] at h1 h
  dsimp only at *
  split
  · rename_i he
    rw [if_pos he] at h
    split
    · rename_i hr
      rw [if_pos hr] at h
      exact absurd rfl h
    · exact h1
  · exact h1
theorem seen_append (q : Q) (p b : Bs) (h : (appendQ q p b).1 ≠ 0) : Seen q (appendQ q p b).2 := by
  have h1 := Seen.begin q (rightL p)
  unfold appendQ at *
  rcases hb : beginQ q (rightL p) with ⟨e, q1⟩
  rw [hb] at h1 h
  dsimp only at *
  split
  · rename_i he
    rw [if_pos he] at h
    split
    · exact h1
    · rename_i k hk
      rw [hk] at h
      dsimp only at h
      split
      · rename_i hr
        rw [if_pos hr] at h
        exact absurd rfl h
      · exact h1
  · exact h1
theorem seen_rename (q : Q) (p t : Bs) (h : (renameQ q p t).1 ≠ 0) : Seen q (renameQ q p t).2 := by
  have h1 := Seen.begin q (rightL p && rightL t && dirL p == dirL t)
  unfold renameQ at *
  rcases hb : beginQ q (rightL p && rightL t && dirL p == dirL t) with ⟨e, q1⟩
  rw [hb] at h1 h
  dsimp only at *
  split
  · rename_i he
    rw [if_pos he] at h
    split
    · exact h1
    · rename_i k hk
      rw [hk] at h
      exact absurd rfl h
  · exact h1
theorem seen_remove (q : Q) (p : Bs) (h : (removeQ q p).1 ≠ 0) : Seen q (removeQ q p).2 := by
  have h1 := Seen.begin q (rightL p)
  unfold removeQ at *
  rcases hb : beginQ q (rightL p) with ⟨e, q1⟩
  rw [hb] at h1 h
  dsimp only at *
  split
  · rename_i he
    rw [if_pos he] at h
    split
    · exact h1
    · rename_i k hk
      rw [hk] at h
      exact absurd rfl h
  · exact h1
theorem seen_sync (q : Q) (p : Bs) (h : (syncQ q p).1 ≠ 0) : Seen q (syncQ q p).2 := by
  have h1 := Seen.begin q (rightL p)
  unfold syncQ at *
  rcases hb : beginQ q (rightL p) with ⟨e, q1⟩
  rw [hb] at h1 h
  dsimp only at *
  split
  · rename_i he
    rw [if_pos he] at h
    split
    · exact h1
    · rename_i k hk
      rw [hk] at h
      exact absurd rfl h
  · exact h1
theorem seen_syncDir (q : Q) (d : Bs) (h : (syncDirQ q d).1 ≠ 0) : Seen q (syncDirQ q d).2 := by
  have h1 := Seen.begin q (d == [] || isPartL d)
  unfold syncDirQ at *
  rcases hb : beginQ q (d == [] || isPartL d) with ⟨e, q1⟩
  rw [hb] at h1 h
  dsimp only at *
  split
  · rename_i he
    rw [if_pos he] at h
    exact absurd rfl h
  · exact h1
theorem seen_try (q : Q) (o : OpR) (h : (tryQ q o).1 ≠ 0) : Seen q (tryQ q o).2 := by
  unfold tryQ at *
  split
  · rename_i k; rw [if_pos k] at h; exact seen_write _ _ _ h
  · rename_i k0
    rw [if_neg k0] at h
    split
    · rename_i k; rw [if_pos k] at h; exact seen_append _ _ _ h
    · rename_i k1
      rw [if_neg k1] at h
      split
      · rename_i k; rw [if_pos k] at h; exact seen_rename _ _ _ h
      · rename_i k2
        rw [if_neg k2] at h
        split
        · rename_i k; rw [if_pos k] at h; exact seen_remove _ _ h
        · rename_i k3
          rw [if_neg k3] at h
          split
          · rename_i k; rw [if_pos k] at h; exact seen_sync _ _ h
          · rename_i k4; rw [if_neg k4] at h; exact seen_syncDir _ _ h
/-! ### Room -/
theorem extend_room (q : Q) (k : Nat) (b : Bs) : (extendQ q k b).room = q.room := by unfold extendQ; split <;> rfl
theorem try_room (q : Q) (o : OpR) : (tryQ q o).2.room = q.room := by
  unfold tryQ
  split
  · have h1 := begin_room q (rightL o.path.data.toList)
    unfold writeQ
    rcases hb : beginQ q (rightL o.path.data.toList) with ⟨e, q1⟩
    rw [hb] at h1
    dsimp only at *
    split
    · split
      · exact (extend_room _ _ _).trans h1
      · exact h1
    · exact h1
  · split
    · have h1 := begin_room q (rightL o.path.data.toList)
      unfold appendQ
      rcases hb : beginQ q (rightL o.path.data.toList) with ⟨e, q1⟩
      rw [hb] at h1
      dsimp only at *
      split
      · split
        · exact h1
        · split
          · exact (extend_room _ _ _).trans h1
          · exact h1
      · exact h1
    · split
      · have h1 := begin_room q (rightL o.path.data.toList && rightL o.tgt.data.toList && dirL o.path.data.toList == dirL o.tgt.data.toList)
        unfold renameQ
        rcases hb : beginQ q (rightL o.path.data.toList && rightL o.tgt.data.toList && dirL o.path.data.toList == dirL o.tgt.data.toList) with ⟨e, q1⟩
        rw [hb] at h1
        dsimp only at *
        split
        · split
          · exact h1
          · dsimp only
            split <;> exact h1
        · exact h1
      · split
        · have h1 := begin_room q (rightL o.path.data.toList)
          unfold removeQ
          rcases hb : beginQ q (rightL o.path.data.toList) with ⟨e, q1⟩
          rw [hb] at h1
          dsimp only at *
          split
          · split <;> exact h1
          · exact h1
        · split
          · have h1 := begin_room q (rightL o.path.data.toList)
            unfold syncQ
            rcases hb : beginQ q (rightL o.path.data.toList) with ⟨e, q1⟩
            rw [hb] at h1
            dsimp only at *
            split
            · split <;> exact h1
            · exact h1
          · have h1 := begin_room q (o.path.data.toList == [] || isPartL o.path.data.toList)
            unfold syncDirQ
            rcases hb : beginQ q (o.path.data.toList == [] || isPartL o.path.data.toList) with ⟨e, q1⟩
            rw [hb] at h1
            dsimp only at *
            split
            · exact (keepQ_same q1 _).2.2.2.1.trans h1
            · exact h1
/-! ### How many bytes are used -/
theorem sum_drop_look (f : Nat → Nat) (p : Bs) : ∀ l : Nm, (l.map (·.1)).Nodup → ((dropN l p).map fun x => f x.2).sum + ((look l p).map f).getD 0 = (l.map fun x => f x.2).sum
  | [], _ => rfl
  | x :: l, h => by
    rw [List.map_cons, List.nodup_cons] at h
    have ih := sum_drop_look f p l h.2
    by_cases hx : x.1 = p
    · have hd : dropN (x :: l) p = dropN l p := by unfold dropN; rw [List.filter_cons_of_neg (by simpa using hx)]
      have hl : look (x :: l) p = some x.2 := by unfold look; rw [List.find?_cons_of_pos (by simpa using hx)]; rfl
      have hn : look l p = none := by
        unfold look
        rw [List.find?_eq_none.2 (fun y hy => by
          have : y.1 ≠ p := fun e => h.1 (by rw [hx, ← e]; exact List.mem_map_of_mem hy)
          simpa using this)]
        rfl
      rw [hd, hl, List.map_cons, List.sum_cons]
      rw [hn] at ih
      simp at ih ⊢
      omega
    · have hd : dropN (x :: l) p = x :: dropN l p := by unfold dropN; rw [List.filter_cons_of_pos (by simpa using hx)]
      have hl : look (x :: l) p = look l p := by unfold look; rw [List.find?_cons_of_neg (by simpa using hx)]
      rw [hd, hl, List.map_cons, List.sum_cons, List.map_cons, List.sum_cons]
      omega
theorem sum_drop_le (f : Nat → Nat) (p : Bs) (l : Nm) : ((dropN l p).map fun x => f x.2).sum ≤ (l.map fun x => f x.2).sum := by
  unfold dropN
  induction l with
  | nil => exact Nat.le_refl _
  | cons x l ih =>
    by_cases hx : x.1 = p
    · rw [List.filter_cons_of_neg (by simpa using hx), List.map_cons, List.sum_cons]
      omega
    · rw [List.filter_cons_of_pos (by simpa using hx), List.map_cons, List.sum_cons, List.map_cons, List.sum_cons]
      omega
theorem sum_le_pt (f g : Nat → Nat) (l : Nm) (h : ∀ x ∈ l, g x.2 ≤ f x.2) : (l.map fun x => g x.2).sum ≤ (l.map fun x => f x.2).sum := by
  induction l with
  | nil => exact Nat.le_refl _
  | cons x l ih =>
    rw [List.map_cons, List.sum_cons, List.map_cons, List.sum_cons]
    have := h x (by simp)
    have := ih (fun y hy => h y (by simp [hy]))
    omega
theorem sum_bump (f g : Nat → Nat) (k m : Nat) : ∀ l : Nm, (l.map (·.2)).Nodup → (∀ i, i ≠ k → g i ≤ f i) → g k ≤ f k + m → (l.map fun x => g x.2).sum ≤ (l.map fun x => f x.2).sum + m
  | [], _, _, _ => Nat.zero_le _
  | x :: l, h, h1, h2 => by
    rw [List.map_cons, List.nodup_cons] at h
    rw [List.map_cons, List.sum_cons, List.map_cons, List.sum_cons]
    by_cases hx : x.2 = k
    · have hl := sum_le_pt f g l (fun y hy => h1 y.2 (fun e => h.1 (by rw [hx, ← e]; exact List.mem_map_of_mem hy)))
      rw [hx]
      omega
    · have := sum_bump f g k m l h.2 h1 h2
      have := h1 x.2 hx
      omega
def lenQ (q : Q) (k : Nat) : Nat := (qbody q k).now.length
theorem used_eq (q : Q) : usedQ q = (q.names.map fun x => lenQ q x.2).sum := rfl
theorem lenQ_set_far {q q' : Q} {k i : Nat} {x : QB} (h : q'.bodies = q.bodies.set k x) (hi : i ≠ k) : lenQ q' i = lenQ q i := by
  unfold lenQ qbody
  rw [h, List.getD_eq_getElem?_getD, List.getD_eq_getElem?_getD, List.getElem?_set_ne (Ne.symm hi)]
theorem lenQ_set_at {q q' : Q} {k : Nat} {x : QB} (h : q'.bodies = q.bodies.set k x) : lenQ q' k ≤ x.now.length := by
  unfold lenQ qbody
  rw [h, List.getD_eq_getElem?_getD, List.getElem?_set]
  split
  · split
    · exact Nat.le_refl _
    · exact Nat.zero_le _
  · rename_i h; exact absurd rfl h
theorem lenQ_extend_far (q : Q) (k i : Nat) (b : Bs) (hi : i ≠ k) : lenQ (extendQ q k b) i = lenQ q i := by
  unfold extendQ
  split
  · rfl
  · exact lenQ_set_far rfl hi
theorem lenQ_extend_at (q : Q) (k : Nat) (b : Bs) : lenQ (extendQ q k b) k ≤ lenQ q k + b.length := by
  unfold extendQ
  split
  · exact Nat.le_add_right _ _
  · refine Nat.le_trans (lenQ_set_at rfl) ?_
    rw [List.length_append]
    exact Nat.le_refl _
theorem lenQ_keepQ : ∀ (cs : List QC) (q : Q) (i : Nat), lenQ (keepQ q cs) i ≤ lenQ q i
  | [], _, _ => Nat.le_refl _
  | c :: r, q, i => by
    refine Nat.le_trans (lenQ_keepQ r (keep1Q q c) i) ?_
    unfold keep1Q goneQ
    cases look q.kept c.to with
    | none => exact Nat.le_refl _
    | some g =>
      by_cases hi : i = g
      · subst hi
        exact Nat.le_trans (lenQ_set_at (x := ⟨[], 0⟩) rfl) (Nat.zero_le _)
      · exact Nat.le_of_eq (lenQ_set_far rfl hi)
theorem sum_putN (f : Nat → Nat) (l : Nm) (p : Bs) (k : Nat) : ((putN l p k).map fun x => f x.2).sum = ((dropN l p).map fun x => f x.2).sum + f k := by
  unfold putN
  rw [List.map_append, List.sum_append]
  simp
theorem used_write {N : Nat} {q : Q} (H : Small N q) (p b : Bs) : (usedQ (writeQ q p b).2 : Int) ≤ max q.room (usedQ q) := by
  have h1 := Seen.begin q (rightL p)
  have hr := begin_room q (rightL p)
  unfold writeQ
  rcases hb : beginQ q (rightL p) with ⟨e, q1⟩
  rw [hb] at h1 hr
  dsimp only at *
  have hu := h1.used
  split
  · split
    · rename_i hroom
      unfold hasRoomQ at hroom
      have hroom := of_decide_eq_true hroom
      have hd : (q1.names.map (·.1)).Nodup := by rw [h1.names]; exact H.dn
      have hlt : ∀ x ∈ q1.names, x.2 < q1.bodies.length := by rw [h1.names, h1.bodies]; exact fun x hx => (H.kn x hx).2
      have hf : ∀ i, i ≠ q1.bodies.length → lenQ (newBodyQ q1 b) i ≤ lenQ q1 i := fun i hi => by
        unfold newBodyQ
        rw [lenQ_extend_far _ _ _ _ hi]
        unfold lenQ qbody
        rw [List.getD_eq_getElem?_getD, List.getD_eq_getElem?_getD, List.getElem?_append]
        split
        · exact Nat.le_refl _
        · rename_i hge
          rw [List.getElem?_eq_none (by simp; omega)]
          exact Nat.zero_le _
      have ha : lenQ (newBodyQ q1 b) q1.bodies.length ≤ b.length := by
        unfold newBodyQ
        refine Nat.le_trans (lenQ_extend_at _ _ _) ?_
        have h0 : lenQ { q1 with bodies := q1.bodies ++ [⟨[], 0⟩] } q1.bodies.length = 0 := by
          unfold lenQ qbody
          rw [List.getD_eq_getElem?_getD, List.getElem?_append_right (Nat.le_refl _)]
          simp
        rw [h0]
        omega
      have hs := sum_drop_look (lenQ q1) p q1.names hd
      have hN : (changeQ (newBodyQ q1 b) p p (some q1.bodies.length)).names = putN (dropN q1.names p) p q1.bodies.length := by
        obtain ⟨n1, _⟩ := extend_same { q1 with bodies := q1.bodies ++ [⟨[], 0⟩] } q1.bodies.length b
        show applyN ⟨p, p, some q1.bodies.length⟩ (newBodyQ q1 b).names = _
        unfold newBodyQ
        rw [n1]
        rfl
      have h3 : usedQ (changeQ (newBodyQ q1 b) p p (some q1.bodies.length)) ≤ ((dropN q1.names p).map fun x => lenQ q1 x.2).sum + b.length := by
        rw [used_eq, hN, sum_putN]
        have h4 := sum_drop_le (lenQ (newBodyQ q1 b)) p (dropN q1.names p)
        have h5 : ((dropN q1.names p).map fun x => lenQ (newBodyQ q1 b) x.2).sum ≤ ((dropN q1.names p).map fun x => lenQ q1 x.2).sum := sum_le_pt _ _ _ (fun x hx => hf _ (fun e => by have := hlt x (mem_drop hx); omega))
        have h6 : ∀ i, lenQ (changeQ (newBodyQ q1 b) p p (some q1.bodies.length)) i = lenQ (newBodyQ q1 b) i := fun _ => rfl
        simp only [h6]
        omega
      have h7 : ((look q1.names p).map (lenQ q1)).getD 0 = sizeO q1 (look q1.names p) := by cases look q1.names p <;> rfl
      rw [h7] at hs
      rw [← used_eq] at hs
      dsimp only
      omega
    · rw [hu]; omega
  · rw [hu]; omega
theorem used_append {q : Q} (hd : (q.names.map (·.2)).Nodup) (p b : Bs) : (usedQ (appendQ q p b).2 : Int) ≤ max q.room (usedQ q) := by
  have h1 := Seen.begin q (rightL p)
  have hr := begin_room q (rightL p)
  unfold appendQ
  rcases hb : beginQ q (rightL p) with ⟨e, q1⟩
  rw [hb] at h1 hr
  dsimp only at *
  have hu := h1.used
  split
  · split
    · rw [hu]; omega
    · rename_i k hk
      split
      · rename_i hroom
        unfold hasRoomQ at hroom
        have hroom := of_decide_eq_true hroom
        obtain ⟨n1, _⟩ := extend_same q1 k b
        have h3 : usedQ (extendQ q1 k b) ≤ usedQ q1 + b.length := by
          rw [used_eq, used_eq, n1]
          exact sum_bump (lenQ q1) (lenQ (extendQ q1 k b)) k b.length q1.names (by rw [h1.names]; exact hd) (fun i hi => Nat.le_of_eq (lenQ_extend_far _ _ _ _ hi)) (lenQ_extend_at _ _ _)
        dsimp only
        omega
      · rw [hu]; omega
  · rw [hu]; omega
theorem used_rename {N : Nat} {q : Q} (H : Small N q) (p t : Bs) : usedQ (renameQ q p t).2 ≤ usedQ q := by
  have h1 := Seen.begin q (rightL p && rightL t && dirL p == dirL t)
  unfold renameQ
  rcases hb : beginQ q (rightL p && rightL t && dirL p == dirL t) with ⟨e, q1⟩
  rw [hb] at h1
  dsimp only at *
  have hu := h1.used
  split
  · split
    · rw [hu]; exact Nat.le_refl _
    · rename_i k hk
      dsimp only
      split
      · rw [hu]; exact Nat.le_refl _
      · have hd : (q1.names.map (·.1)).Nodup := by rw [h1.names]; exact H.dn
        have hs := sum_drop_look (lenQ q1) p q1.names hd
        rw [hk] at hs
        have h3 : usedQ (changeQ q1 p t (some k)) = ((putN (dropN q1.names p) t k).map fun x => lenQ q1 x.2).sum := rfl
        rw [h3, sum_putN]
        have := sum_drop_le (lenQ q1) t (dropN q1.names p)
        rw [← used_eq] at hs
        simp at hs
        omega
  · rw [hu]; exact Nat.le_refl _
theorem used_remove (q : Q) (p : Bs) : usedQ (removeQ q p).2 ≤ usedQ q := by
  have h1 := Seen.begin q (rightL p)
  unfold removeQ
  rcases hb : beginQ q (rightL p) with ⟨e, q1⟩
  rw [hb] at h1
  dsimp only at *
  have hu := h1.used
  split
  · split
    · rw [hu]; exact Nat.le_refl _
    · rw [← hu]
      exact sum_drop_le (lenQ q1) p q1.names
  · rw [hu]; exact Nat.le_refl _
theorem used_sync (q : Q) (p : Bs) : usedQ (syncQ q p).2 ≤ usedQ q := by
  have h1 := Seen.begin q (rightL p)
  unfold syncQ
  rcases hb : beginQ q (rightL p) with ⟨e, q1⟩
  rw [hb] at h1
  dsimp only at *
  have hu := h1.used
  split
  · split
    · rw [hu]; exact Nat.le_refl _
    · rename_i k hk
      rw [← hu]
      refine sum_le_pt (lenQ q1) (lenQ (({ q1 with bodies := q1.bodies.set k ⟨(qbody q1 k).now, (qbody q1 k).now.length⟩, loose := dropN q1.loose k } : Q))) q1.names (fun x _ => ?_)
      by_cases hx : x.2 = k
      · rw [hx]
        exact lenQ_set_at (q := q1) (k := k) (x := ⟨(qbody q1 k).now, (qbody q1 k).now.length⟩) rfl
      · exact Nat.le_of_eq (lenQ_set_far (q := q1) (k := k) rfl hx)
  · rw [hu]; exact Nat.le_refl _
theorem used_syncDir (q : Q) (d : Bs) : usedQ (syncDirQ q d).2 ≤ usedQ q := by
  have h1 := Seen.begin q (d == [] || isPartL d)
  unfold syncDirQ
  rcases hb : beginQ q (d == [] || isPartL d) with ⟨e, q1⟩
  rw [hb] at h1
  dsimp only at *
  have hu := h1.used
  split
  · rw [← hu]
    have hn := (keepQ_same q1 ((look q1.changes d).getD [])).1
    show ((keepQ q1 ((look q1.changes d).getD [])).names.map fun x => lenQ (keepQ q1 ((look q1.changes d).getD [])) x.2).sum ≤ _
    rw [hn]
    exact sum_le_pt (lenQ q1) _ q1.names (fun x _ => lenQ_keepQ _ _ _)
  · rw [hu]; exact Nat.le_refl _
theorem try_used {N : Nat} {q : Q} (H : Small N q) (hd : (q.names.map (·.2)).Nodup) (o : OpR) : (usedQ (tryQ q o).2 : Int) ≤ max q.room (usedQ q) := by
  unfold tryQ
  split
  · exact used_write H _ _
  · split
    · exact used_append hd _ _
    · split
      · have := used_rename H o.path.data.toList o.tgt.data.toList; omega
      · split
        · have := used_remove q o.path.data.toList; omega
        · split
          · have := used_sync q o.path.data.toList; omega
          · have := used_syncDir q o.path.data.toList; omega
end Go.Proofs.YtbodkjifpmencaaGreat
