/-
  Of the proof that disks answer every script as the document says: the parts VgP VfR VgQ VgS. No conditions.
-/
import Derived.Test.YtbodkjifpmencaaGreatY13
import Derived.Test.YtbodkjifpmencaaGreatY14
namespace Go.Proofs.YtbodkjifpmencaaGreat

structure RB2 where
  now : Bs
  kept : Bs
abbrev RCh := Bs × List (Bs × Option Nat)
structure R where
  room : Int
  bodies : List RB2
  names : Nm
  kept : Nm
  changes : List RCh
  fails : Bool
  once : Bool
  calls : Int
def rNew (room : Int) : R := ⟨max room 0, [], [], [], [], false, false, 0⟩
def withR (l : Nm) (x : Bs × Option Nat) : Nm := match x.2 with | none => dropN l x.1 | some k => putN l x.1 k
def rbody (r : R) (k : Nat) : RB2 := r.bodies.getD k ⟨[], []⟩
def callR (r : R) (right : Bool) : Int × R :=
  if right then if r.fails then if 0 < r.calls then (0, { r with calls := r.calls - 1 }) else (62, { r with fails := !r.once }) else (0, r) else (2, r)
def usedR (r : R) : Nat := (r.names.map fun x => (rbody r x.2).now.length).sum
def sizeR (r : R) (o : Option Nat) : Nat := match o with | none => 0 | some k => (rbody r k).now.length
def changeR (r : R) (d : Bs) (l : List (Bs × Option Nat)) : R := { r with names := l.foldl withR r.names, changes := r.changes ++ [(d, l)] }
def writeR (r : R) (p b : Bs) : Int × R :=
  match callR r (rightL p) with
  | (e, r) => if e = 0 then
      if (usedR r : Int) - sizeR r (look r.names p) + b.length ≤ r.room then (0, changeR { r with bodies := r.bodies ++ [⟨b, []⟩] } (dirL p) [(p, some r.bodies.length)]) else (61, r)
    else (e, r)
def appendR (r : R) (p b : Bs) : Int × R :=
  match callR r (rightL p) with
  | (e, r) => if e = 0 then
      match look r.names p with
      | none => (60, r)
      | some k => if (usedR r : Int) + b.length ≤ r.room then (0, { r with bodies := r.bodies.set k ⟨(rbody r k).now ++ b, (rbody r k).kept⟩ }) else (61, r)
    else (e, r)
def readR (r : R) (p : Bs) : Option Bs := (look r.names p).map fun k => (rbody r k).now
def renameR (r : R) (frm tgt : Bs) : Int × R :=
  match callR r (rightL frm && rightL tgt && dirL frm == dirL tgt) with
  | (e, r) => if e = 0 then
      match look r.names frm with
      | none => (60, r)
      | some k => (0, if frm = tgt then r else changeR r (dirL tgt) [(frm, none), (tgt, some k)])
    else (e, r)
def removeR (r : R) (p : Bs) : Int × R :=
  match callR r (rightL p) with
  | (e, r) => if e = 0 then
      match look r.names p with
      | none => (60, r)
      | some _ => (0, changeR r (dirL p) [(p, none)])
    else (e, r)
def syncR (r : R) (p : Bs) : Int × R :=
  match callR r (rightL p) with
  | (e, r) => if e = 0 then
      match look r.names p with
      | none => (60, r)
      | some k => (0, { r with bodies := r.bodies.set k ⟨(rbody r k).now, (rbody r k).now⟩ })
    else (e, r)
/-- The first n changes of a directory, kept; the others stay. -/
def keepGo (d : Bs) : List RCh → Nat → Nm → Nm × List RCh
  | [], _, l => (l, [])
  | c :: cs, n, l => if c.1 ≠ d ∨ n = 0 then ((keepGo d cs n l).1, c :: (keepGo d cs n l).2) else keepGo d cs (n - 1) (c.2.foldl withR l)
def keepR (r : R) (d : Bs) (n : Nat) : R := { r with kept := (keepGo d r.changes n r.kept).1, changes := (keepGo d r.changes n r.kept).2 }
def syncDirR (r : R) (d : Bs) : Int × R :=
  match callR r (d == [] || isPartL d) with
  | (e, r) => if e = 0 then (0, keepR r d r.changes.length) else (e, r)
def failR (r : R) (calls : Int) (once : Bool) : R := { r with fails := true, once := once, calls := max calls 0 }
/-! ### The double -/
/-- A change, as the document has it. -/
def trC (c : QC) : List (Bs × Option Nat) := match c.body with
  | none => [(c.frm, none)]
  | some k => if c.frm = c.to then [(c.to, some k)] else [(c.frm, none), (c.to, some k)]
theorem dropN_idem (l : Nm) (p : Bs) : dropN (dropN l p) p = dropN l p := by
  unfold dropN
  rw [List.filter_filter]
  congr 1
  funext x
  simp
theorem apply_tr (c : QC) (l : Nm) : applyN c l = (trC c).foldl withR l := by
  unfold applyN trC
  cases c.body with
  | none => rfl
  | some k =>
    dsimp only
    by_cases h : c.frm = c.to
    · rw [if_pos h, h]
      show putN (dropN l c.to) c.to k = putN l c.to k
      unfold putN
      rw [dropN_idem]
    · rw [if_neg h]; rfl
/-- The body is named, now, in what is kept, or by a change that isn't. -/
def Alive (q : Q) (k : Nat) : Prop := (∃ x ∈ q.names, x.2 = k) ∨ (∃ x ∈ q.kept, x.2 = k) ∨ ∃ x ∈ q.changes, ∃ c ∈ x.2, c.body = some k
structure Sim (q : Q) (r : R) : Prop where
  room : r.room = q.room
  names : r.names = q.names
  kept : r.kept = q.kept
  chg : ∀ d, ((r.changes.filter fun c => decide (c.1 = d)).map (·.2)) = (chL q d).map trC
  len : r.bodies.length = q.bodies.length
  body : ∀ k, Alive q k → rbody r k = ⟨(qbody q k).now, (qbody q k).now.take (qbody q k).kept⟩
  pre : ∀ b ∈ r.bodies, b.kept = b.now.take b.kept.length
  loose : ∀ k, k < q.bodies.length → ((∃ x ∈ q.loose, x.1 = k) ↔ (rbody r k).now ≠ (rbody r k).kept)
  fails : r.fails = q.told
  calls : q.told = true → r.calls = max q.ahead 0 ∧ r.once = q.once
theorem Sim.new (room : Int) : Sim (qNew room) (rNew room) :=
  ⟨rfl, rfl, rfl, fun _ => rfl, rfl, (fun k h => by rcases h with ⟨x, hx, _⟩ | ⟨x, hx, _⟩ | ⟨x, hx, _⟩ <;> cases hx), (fun b hb => by cases hb), (fun k hk => by cases hk), rfl, fun h => by cases h⟩
theorem Sim.size {q : Q} {r : R} (S : Sim q r) {p : Bs} : sizeR r (look r.names p) = sizeO q (look q.names p) := by
  rw [S.names]
  cases h : look q.names p with
  | none => rfl
  | some k =>
    show (rbody r k).now.length = (qbody q k).now.length
    rw [S.body k (.inl ⟨_, look_mem h, rfl⟩)]
theorem Sim.used {q : Q} {r : R} (S : Sim q r) : usedR r = usedQ q := by
  unfold usedR usedQ
  rw [S.names]
  congr 1
  exact List.map_congr_left fun x hx => by rw [S.body x.2 (.inl ⟨x, hx, rfl⟩)]
theorem Sim.read {q : Q} {r : R} (S : Sim q r) (p : Bs) : readR r p = readQ q p := by
  unfold readR readQ
  rw [S.names]
  cases h : look q.names p with
  | none => rfl
  | some k => show some (rbody r k).now = some (qbody q k).now; rw [S.body k (.inl ⟨_, look_mem h, rfl⟩)]
/-- Of the program's disk only what failure was told has turned. -/
theorem Sim.keep {q q' : Q} {r r' : R} (S : Sim q r) (h1 : q'.names = q.names) (h2 : q'.kept = q.kept) (h3 : q'.changes = q.changes) (h4 : q'.bodies = q.bodies) (h5 : q'.loose = q.loose) (h6 : q'.room = q.room) (g1 : r'.room = r.room) (g2 : r'.bodies = r.bodies) (g3 : r'.names = r.names) (g4 : r'.kept = r.kept) (g5 : r'.changes = r.changes) (f1 : r'.fails = q'.told) (f2 : q'.told = true → r'.calls = max q'.ahead 0 ∧ r'.once = q'.once) : Sim q' r' := by
  have hb : ∀ k, rbody r' k = rbody r k := fun k => by unfold rbody; rw [g2]
  have hq : ∀ k, qbody q' k = qbody q k := fun k => by unfold qbody; rw [h4]
  refine ⟨by rw [g1, h6]; exact S.room, by rw [g3, h1]; exact S.names, by rw [g4, h2]; exact S.kept, fun d => by rw [g5]; unfold chL; rw [h3]; exact S.chg d, by rw [g2, h4]; exact S.len, fun k hk => ?_, by rw [g2]; exact S.pre, fun k hk => by rw [h5, hb]; exact S.loose k (by rw [← h4]; exact hk), f1, f2⟩
  rw [hb, hq]
  refine S.body k ?_
  unfold Alive at *
  rw [h1, h2, h3] at hk
  exact hk
theorem Sim.begin {q : Q} {r : R} (S : Sim q r) (right : Bool) : (callR r right).1 = (beginQ q right).1 ∧ Sim (beginQ q right).2 (callR r right).2 := by
  unfold callR beginQ strikeQ
  cases right with
  | false => exact ⟨rfl, S⟩
  | true =>
    rw [if_pos rfl, if_pos rfl, S.fails]
    cases ht : q.told with
    | false => exact ⟨rfl, S⟩
    | true =>
      obtain ⟨hc, ho⟩ := S.calls ht
      rw [if_pos rfl, if_pos rfl, hc]
      by_cases ha : 0 < q.ahead
      · rw [if_pos (by omega), if_pos ha]
        exact ⟨rfl, S.keep rfl rfl rfl rfl rfl rfl rfl rfl rfl rfl rfl rfl (fun _ => ⟨by show max q.ahead 0 - 1 = max (q.ahead - 1) 0; omega, ho⟩)⟩
      · rw [if_neg (by omega), if_neg ha]
        refine ⟨rfl, S.keep rfl rfl rfl rfl rfl rfl rfl rfl rfl rfl rfl (by show (!r.once) = !q.once; rw [ho]) (fun _ => ⟨rfl, ho⟩)⟩
theorem Sim.fail {q : Q} {r : R} (S : Sim q r) (calls : Int) (once : Bool) : Sim (failQ q calls once) (failR r calls once) :=
  S.keep rfl rfl rfl rfl rfl rfl rfl rfl rfl rfl rfl rfl (fun _ => ⟨rfl, rfl⟩)
end Go.Proofs.YtbodkjifpmencaaGreat
namespace Go.Proofs.YtbodkjifpmencaaGreat

theorem begin_room (q : Q) (r : Bool) : (beginQ q r).2.room = q.room := by
  rw [begin_snd]
  split
  · unfold strikeQ
    split
    · split <;> rfl
    · rfl
  · rfl
/-- What is seen of a disk is as it was. -/
structure Seen (q q' : Q) : Prop where
  names : q'.names = q.names
  bodies : q'.bodies = q.bodies
theorem Seen.used {q q' : Q} (h : Seen q q') : usedQ q' = usedQ q := by unfold usedQ qbody; rw [h.names, h.bodies]
theorem Seen.list {q q' : Q} (h : Seen q q') (d : Bs) : listQ q' d = listQ q d := by unfold listQ; rw [h.names]
theorem Seen.read {q q' : Q} (h : Seen q q') (p : Bs) : readQ q' p = readQ q p := by unfold readQ qbody; rw [h.names, h.bodies]
theorem Seen.begin (q : Q) (r : Bool) : Seen q (beginQ q r).2 := ⟨(begin_keeps q r).1, (begin_keeps q r).2.2.2⟩
theorem seen_write (q : Q) (p b : Bs) (h : (writeQ q p b).1 ≠ 0) : Seen q (writeQ q p b).2 := by
  have h1 := Seen.begin q (rightL p)
  unfold writeQ at *
  rcases hb : beginQ q (rightL p) with ⟨e, q1⟩
  rw [hb] at h1 h
  dsimp only at *
  split
  · rename_i he
    rw [if_pos he] at h
    split
    · rename_i hr
      rw [if_pos hr] at h
      exact absurd rfl h
    · exact h1
  · exact h1
theorem seen_append (q : Q) (p b : Bs) (h : (appendQ q p b).1 ≠ 0) : Seen q (appendQ q p b).2 := by
  have h1 := Seen.begin q (rightL p)
  unfold appendQ at *
  rcases hb : beginQ q (rightL p) with ⟨e, q1⟩
  rw [hb] at h1 h
  dsimp only at *
  split
  · rename_i he
    rw [if_pos he] at h
    split
    · exact h1
    · rename_i k hk
      rw [hk] at h
      dsimp only at h
      split
      · rename_i hr
        rw [if_pos hr] at h
        exact absurd rfl h
      · exact h1
  · exact h1
theorem seen_rename (q : Q) (p t : Bs) (h : (renameQ q p t).1 ≠ 0) : Seen q (renameQ q p t).2 := by
  have h1 := Seen.begin q (rightL p && rightL t && dirL p == dirL t)
  unfold renameQ at *
  rcases hb : beginQ q (rightL p && rightL t && dirL p == dirL t) with ⟨e, q1⟩
  rw [hb] at h1 h
  dsimp only at *
  split
  · rename_i he
    rw [if_pos he] at h
    split
    · exact h1
    · rename_i k hk
      rw [hk] at h
      exact absurd rfl h
  · exact h1
theorem seen_remove (q : Q) (p : Bs) (h : (removeQ q p).1 ≠ 0) : Seen q (removeQ q p).2 := by
  have h1 := Seen.begin q (rightL p)
  unfold removeQ at *
  rcases hb : beginQ q (rightL p) with ⟨e, q1⟩
  rw [hb] at h1 h
  dsimp only at *
  split
  · rename_i he
    rw [if_pos he] at h
    split
    · exact h1
    · rename_i k hk
      rw [hk] at h
      exact absurd rfl h
  · exact h1
theorem seen_sync (q : Q) (p : Bs) (h : (syncQ q p).1 ≠ 0) : Seen q (syncQ q p).2 := by
  have h1 := Seen.begin q (rightL p)
  unfold syncQ at *
  rcases hb : beginQ q (rightL p) with ⟨e, q1⟩
  rw [hb] at h1 h
  dsimp only at *
  split
  · rename_i he
    rw [if_pos he] at h
    split
    · exact h1
    · rename_i k hk
      rw [hk] at h
      exact absurd rfl h
  · exact h1
theorem seen_syncDir (q : Q) (d : Bs) (h : (syncDirQ q d).1 ≠ 0) : Seen q (syncDirQ q d).2 := by
  have h1 := Seen.begin q (d == [] || isPartL d)
  unfold syncDirQ at *
  rcases hb : beginQ q (d == [] || isPartL d) with ⟨e, q1⟩
  rw [hb] at h1 h
  dsimp only at *
  split
  · rename_i he
    rw [if_pos he] at h
    exact absurd rfl h
  · exact h1
theorem seen_try (q : Q) (o : OpR) (h : (tryQ q o).1 ≠ 0) : Seen q (tryQ q o).2 := by
  unfold tryQ at *
  split
  · rename_i k; rw [if_pos k] at h; exact seen_write _ _ _ h
  · rename_i k0
    rw [if_neg k0] at h
    split
    · rename_i k; rw [if_pos k] at h; exact seen_append _ _ _ h
    · rename_i k1
      rw [if_neg k1] at h
      split
      · rename_i k; rw [if_pos k] at h; exact seen_rename _ _ _ h
      · rename_i k2
        rw [if_neg k2] at h
        split
        · rename_i k; rw [if_pos k] at h; exact seen_remove _ _ h
        · rename_i k3
          rw [if_neg k3] at h
          split
          · rename_i k; rw [if_pos k] at h; exact seen_sync _ _ h
          · rename_i k4; rw [if_neg k4] at h; exact seen_syncDir _ _ h
/-! ### Room -/
theorem extend_room (q : Q) (k : Nat) (b : Bs) : (extendQ q k b).room = q.room := by unfold extendQ; split <;> rfl
theorem try_room (q : Q) (o : OpR) : (tryQ q o).2.room = q.room := by
  unfold tryQ
  split
  · have h1 := begin_room q (rightL o.path.data.toList)
    unfold writeQ
    rcases hb : beginQ q (rightL o.path.data.toList) with ⟨e, q1⟩
    rw [hb] at h1
    dsimp only at *
    split
    · split
      · exact (extend_room _ _ _).trans h1
      · exact h1
    · exact h1
  · split
    · have h1 := begin_room q (rightL o.path.data.toList)
      unfold appendQ
      rcases hb : beginQ q (rightL o.path.data.toList) with ⟨e, q1⟩
      rw [hb] at h1
      dsimp only at *
      split
      · split
        · exact h1
        · split
          · exact (extend_room _ _ _).trans h1
          · exact h1
      · exact h1
    · split
      · have h1 := begin_room q (rightL o.path.data.toList && rightL o.tgt.data.toList && dirL o.path.data.toList == dirL o.tgt.data.toList)
        unfold renameQ
        rcases hb : beginQ q (rightL o.path.data.toList && rightL o.tgt.data.toList && dirL o.path.data.toList == dirL o.tgt.data.toList) with ⟨e, q1⟩
        rw [hb] at h1
        dsimp only at *
        split
        · split
          · exact h1
          · dsimp only
            split <;> exact h1
        · exact h1
      · split
        · have h1 := begin_room q (rightL o.path.data.toList)
          unfold removeQ
          rcases hb : beginQ q (rightL o.path.data.toList) with ⟨e, q1⟩
          rw [hb] at h1
          dsimp only at *
          split
          · split <;> exact h1
          · exact h1
        · split
          · have h1 := begin_room q (rightL o.path.data.toList)
            unfold syncQ
            rcases hb : beginQ q (rightL o.path.data.toList) with ⟨e, q1⟩
            rw [hb] at h1
            dsimp only at *
            split
            · split <;> exact h1
            · exact h1
          · have h1 := begin_room q (o.path.data.toList == [] || isPartL o.path.data.toList)
            unfold syncDirQ
            rcases hb : beginQ q (o.path.data.toList == [] || isPartL o.path.data.toList) with ⟨e, q1⟩
            rw [hb] at h1
            dsimp only at *
            split
            · exact (keepQ_same q1 _).2.2.2.1.trans h1
            · exact h1
/-! ### How many bytes are used -/
theorem sum_drop_look (f : Nat → Nat) (p : Bs) : ∀ l : Nm, (l.map (·.1)).Nodup → ((dropN l p).map fun x => f x.2).sum + ((look l p).map f).getD 0 = (l.map fun x => f x.2).sum
  | [], _ => rfl
  | x :: l, h => by
    rw [List.map_cons, List.nodup_cons] at h
    have ih := sum_drop_look f p l h.2
    by_cases hx : x.1 = p
    · have hd : dropN (x :: l) p = dropN l p := by unfold dropN; rw [List.filter_cons_of_neg (by simpa using hx)]
      have hl : look (x :: l) p = some x.2 := by unfold look; rw [List.find?_cons_of_pos (by simpa using hx)]; rfl
      have hn : look l p = none := by
        unfold look
        rw [List.find?_eq_none.2 (fun y hy => by
          have : y.1 ≠ p := fun e => h.1 (by rw [hx, ← e]; exact List.mem_map_of_mem hy)
          simpa using this)]
        rfl
      rw [hd, hl, List.map_cons, List.sum_cons]
      rw [hn] at ih
      simp at ih ⊢
      omega
    · have hd : dropN (x :: l) p = x :: dropN l p := by unfold dropN; rw [List.filter_cons_of_pos (by simpa using hx)]
      have hl : look (x :: l) p = look l p := by unfold look; rw [List.find?_cons_of_neg (by simpa using hx)]
      rw [hd, hl, List.map_cons, List.sum_cons, List.map_cons, List.sum_cons]
      omega
theorem sum_drop_le (f : Nat → Nat) (p : Bs) (l : Nm) : ((dropN l p).map fun x => f x.2).sum ≤ (l.map fun x => f x.2).sum := by
  unfold dropN
  induction l with
  | nil => exact Nat.le_refl _
  | cons x l ih =>
    by_cases hx : x.1 = p
    · rw [List.filter_cons_of_neg (by simpa using hx), List.map_cons, List.sum_cons]
      omega
    · rw [List.filter_cons_of_pos (by simpa using hx), List.map_cons, List.sum_cons, List.map_cons, List.sum_cons]
      omega
theorem sum_le_pt (f g : Nat → Nat) (l : Nm) (h : ∀ x ∈ l, g x.2 ≤ f x.2) : (l.map fun x => g x.2).sum ≤ (l.map fun x => f x.2).sum := by
  induction l with
  | nil => exact Nat.le_refl _
  | cons x l ih =>
    rw [List.map_cons, List.sum_cons, List.map_cons, List.sum_cons]
    have := h x (by simp)
    have := ih (fun y hy => h y (by simp [hy]))
    omega
theorem sum_bump (f g : Nat → Nat) (k m : Nat) : ∀ l : Nm, (l.map (·.2)).Nodup → (∀ i, i ≠ k → g i ≤ f i) → g k ≤ f k + m → (l.map fun x => g x.2).sum ≤ (l.map fun x => f x.2).sum + m
  | [], _, _, _ => Nat.zero_le _
  | x :: l, h, h1, h2 => by
    rw [List.map_cons, List.nodup_cons] at h
    rw [List.map_cons, List.sum_cons, List.map_cons, List.sum_cons]
    by_cases hx : x.2 = k
    · have hl := sum_le_pt f g l (fun y hy => h1 y.2 (fun e => h.1 (by rw [hx, ← e]; exact List.mem_map_of_mem hy)))
      rw [hx]
      omega
    · have := sum_bump f g k m l h.2 h1 h2
      have := h1 x.2 hx
      omega
def lenQ (q : Q) (k : Nat) : Nat := (qbody q k).now.length
theorem used_eq (q : Q) : usedQ q = (q.names.map fun x => lenQ q x.2).sum := rfl
theorem lenQ_set_far {q q' : Q} {k i : Nat} {x : QB} (h : q'.bodies = q.bodies.set k x) (hi : i ≠ k) : lenQ q' i = lenQ q i := by
  unfold lenQ qbody
  rw [h, List.getD_eq_getElem?_getD, List.getD_eq_getElem?_getD, List.getElem?_set_ne (Ne.symm hi)]
theorem lenQ_set_at {q q' : Q} {k : Nat} {x : QB} (h : q'.bodies = q.bodies.set k x) : lenQ q' k ≤ x.now.length := by
  unfold lenQ qbody
  rw [h, List.getD_eq_getElem?_getD, List.getElem?_set]
  split
  · split
    · exact Nat.le_refl _
    · exact Nat.zero_le _
  · rename_i h; exact absurd rfl h
theorem lenQ_extend_far (q : Q) (k i : Nat) (b : Bs) (hi : i ≠ k) : lenQ (extendQ q k b) i = lenQ q i := by
  unfold extendQ
  split
  · rfl
  · exact lenQ_set_far rfl hi
theorem lenQ_extend_at (q : Q) (k : Nat) (b : Bs) : lenQ (extendQ q k b) k ≤ lenQ q k + b.length := by
  unfold extendQ
  split
  · exact Nat.le_add_right _ _
  · refine Nat.le_trans (lenQ_set_at rfl) ?_
    rw [List.length_append]
    exact Nat.le_refl _
theorem lenQ_keepQ : ∀ (cs : List QC) (q : Q) (i : Nat), lenQ (keepQ q cs) i ≤ lenQ q i
  | [], _, _ => Nat.le_refl _
  | c :: r, q, i => by
    refine Nat.le_trans (lenQ_keepQ r (keep1Q q c) i) ?_
    unfold keep1Q goneQ
    cases look q.kept c.to with
    | none => exact Nat.le_refl _
    | some g =>
      by_cases hi : i = g
      · subst hi
        exact Nat.le_trans (lenQ_set_at (x := ⟨[], 0⟩) rfl) (Nat.zero_le _)
      · exact Nat.le_of_eq (lenQ_set_far rfl hi)
theorem sum_putN (f : Nat → Nat) (l : Nm) (p : Bs) (k : Nat) : ((putN l p k).map fun x => f x.2).sum = ((dropN l p).map fun x => f x.2).sum + f k := by
  unfold putN
  rw [List.map_append, List.sum_append]
  simp
theorem used_write {N : Nat} {q : Q} (H : Small N q) (p b : Bs) : (usedQ (writeQ q p b).2 : Int) ≤ max q.room (usedQ q) := by
  have h1 := Seen.begin q (rightL p)
  have hr := begin_room q (rightL p)
  unfold writeQ
  rcases hb : beginQ q (rightL p) with ⟨e, q1⟩
  rw [hb] at h1 hr
  dsimp only at *
  have hu := h1.used
  split
  · split
    · rename_i hroom
      unfold hasRoomQ at hroom
      have hroom := of_decide_eq_true hroom
      have hd : (q1.names.map (·.1)).Nodup := by rw [h1.names]; exact H.dn
      have hlt : ∀ x ∈ q1.names, x.2 < q1.bodies.length := by rw [h1.names, h1.bodies]; exact fun x hx => (H.kn x hx).2
      have hf : ∀ i, i ≠ q1.bodies.length → lenQ (newBodyQ q1 b) i ≤ lenQ q1 i := fun i hi => by
        unfold newBodyQ
        rw [lenQ_extend_far _ _ _ _ hi]
        unfold lenQ qbody
        rw [List.getD_eq_getElem?_getD, List.getD_eq_getElem?_getD, List.getElem?_append]
        split
        · exact Nat.le_refl _
        · rename_i hge
          rw [List.getElem?_eq_none (by simp; omega)]
          exact Nat.zero_le _
      have ha : lenQ (newBodyQ q1 b) q1.bodies.length ≤ b.length := by
        unfold newBodyQ
        refine Nat.le_trans (lenQ_extend_at _ _ _) ?_
        have h0 : lenQ { q1 with bodies := q1.bodies ++ [⟨[], 0⟩] } q1.bodies.length = 0 := by
          unfold lenQ qbody
          rw [List.getD_eq_getElem?_getD, List.getElem?_append_right (Nat.le_refl _)]
          simp
        rw [h0]
        omega
      have hs := sum_drop_look (lenQ q1) p q1.names hd
      have hN : (changeQ (newBodyQ q1 b) p p (some q1.bodies.length)).names = putN (dropN q1.names p) p q1.bodies.length := by
        obtain ⟨n1, _⟩ := extend_same { q1 with bodies := q1.bodies ++ [⟨[], 0⟩] } q1.bodies.length b
        show applyN ⟨p, p, some q1.bodies.length⟩ (newBodyQ q1 b).names = _
        unfold newBodyQ
        rw [n1]
        rfl
      have h3 : usedQ (changeQ (newBodyQ q1 b) p p (some q1.bodies.length)) ≤ ((dropN q1.names p).map fun x => lenQ q1 x.2).sum + b.length := by
        rw [used_eq, hN, sum_putN]
        have h4 := sum_drop_le (lenQ (newBodyQ q1 b)) p (dropN q1.names p)
        have h5 : ((dropN q1.names p).map fun x => lenQ (newBodyQ q1 b) x.2).sum ≤ ((dropN q1.names p).map fun x => lenQ q1 x.2).sum := sum_le_pt _ _ _ (fun x hx => hf _ (fun e => by have := hlt x (mem_drop hx); omega))
        have h6 : ∀ i, lenQ (changeQ (newBodyQ q1 b) p p (some q1.bodies.length)) i = lenQ (newBodyQ q1 b) i := fun _ => rfl
        simp only [h6]
        omega
      have h7 : ((look q1.names p).map (lenQ q1)).getD 0 = sizeO q1 (look q1.names p) := by cases look q1.names p <;> rfl
      rw [h7] at hs
      rw [← used_eq] at hs
      dsimp only
      omega
    · rw [hu]; omega
  · rw [hu]; omega
theorem used_append {q : Q} (hd : (q.names.map (·.2)).Nodup) (p b : Bs) : (usedQ (appendQ q p b).2 : Int) ≤ max q.room (usedQ q) := by
  have h1 := Seen.begin q (rightL p)
  have hr := begin_room q (rightL p)
  unfold appendQ
  rcases hb : beginQ q (rightL p) with ⟨e, q1⟩
  rw [hb] at h1 hr
  dsimp only at *
  have hu := h1.used
  split
  · split
    · rw [hu]; omega
    · rename_i k hk
      split
      · rename_i hroom
        unfold hasRoomQ at hroom
        have hroom := of_decide_eq_true hroom
        obtain ⟨n1, _⟩ := extend_same q1 k b
        have h3 : usedQ (extendQ q1 k b) ≤ usedQ q1 + b.length := by
          rw [used_eq, used_eq, n1]
          exact sum_bump (lenQ q1) (lenQ (extendQ q1 k b)) k b.length q1.names (by rw [h1.names]; exact hd) (fun i hi => Nat.le_of_eq (lenQ_extend_far _ _ _ _ hi)) (lenQ_extend_at _ _ _)
        dsimp only
        omega
      · rw [hu]; omega
  · rw [hu]; omega
theorem used_rename {N : Nat} {q : Q} (H : Small N q) (p t : Bs) : usedQ (renameQ q p t).2 ≤ usedQ q := by
  have h1 := Seen.begin q (rightL p && rightL t && dirL p == dirL t)
  unfold renameQ
  rcases hb : beginQ q (rightL p && rightL t && dirL p == dirL t) with ⟨e, q1⟩
  rw [hb] at h1
  dsimp only at *
  have hu := h1.used
  split
  · split
    · rw [hu]; exact Nat.le_refl _
    · rename_i k hk
      dsimp only
      split
      · rw [hu]; exact Nat.le_refl _
      · have hd : (q1.names.map (·.1)).Nodup := by rw [h1.names]; exact H.dn
        have hs := sum_drop_look (lenQ q1) p q1.names hd
        rw [hk] at hs
        have h3 : usedQ (changeQ q1 p t (some k)) = ((putN (dropN q1.names p) t k).map fun x => lenQ q1 x.2).sum := rfl
        rw [h3, sum_putN]
        have := sum_drop_le (lenQ q1) t (dropN q1.names p)
        rw [← used_eq] at hs
        simp at hs
        omega
  · rw [hu]; exact Nat.le_refl _
theorem used_remove (q : Q) (p : Bs) : usedQ (removeQ q p).2 ≤ usedQ q := by
  have h1 := Seen.begin q (rightL p)
  unfold removeQ
  rcases hb : beginQ q (rightL p) with ⟨e, q1⟩
  rw [hb] at h1
  dsimp only at *
  have hu := h1.used
  split
  · split
    · rw [hu]; exact Nat.le_refl _
    · rw [← hu]
      exact sum_drop_le (lenQ q1) p q1.names
  · rw [hu]; exact Nat.le_refl _
theorem used_sync (q : Q) (p : Bs) : usedQ (syncQ q p).2 ≤ usedQ q := by
  have h1 := Seen.begin q (rightL p)
  unfold syncQ
  rcases hb : beginQ q (rightL p) with ⟨e, q1⟩
  rw [hb] at h1
  dsimp only at *
  have hu := h1.used
  split
  · split
    · rw [hu]; exact Nat.le_refl _
    · rename_i k hk
      rw [← hu]
      refine sum_le_pt (lenQ q1) (lenQ (({ q1 with bodies := q1.bodies.set k ⟨(qbody q1 k).now, (qbody q1 k).now.length⟩, loose := dropN q1.loose k } : Q))) q1.names (fun x _ => ?_)
      by_cases hx : x.2 = k
      · rw [hx]
        exact lenQ_set_at (q := q1) (k := k) (x := ⟨(qbody q1 k).now, (qbody q1 k).now.length⟩) rfl
      · exact Nat.le_of_eq (lenQ_set_far (q := q1) (k := k) rfl hx)
  · rw [hu]; exact Nat.le_refl _
theorem used_syncDir (q : Q) (d : Bs) : usedQ (syncDirQ q d).2 ≤ usedQ q := by
  have h1 := Seen.begin q (d == [] || isPartL d)
  unfold syncDirQ
  rcases hb : beginQ q (d == [] || isPartL d) with ⟨e, q1⟩
  rw [hb] at h1
  dsimp only at *
  have hu := h1.used
  split
  · rw [← hu]
    have hn := (keepQ_same q1 ((look q1.changes d).getD [])).1
    show ((keepQ q1 ((look q1.changes d).getD [])).names.map fun x => lenQ (keepQ q1 ((look q1.changes d).getD [])) x.2).sum ≤ _
    rw [hn]
    exact sum_le_pt (lenQ q1) _ q1.names (fun x _ => lenQ_keepQ _ _ _)
  · rw [hu]; exact Nat.le_refl _
theorem try_used {N : Nat} {q : Q} (H : Small N q) (hd : (q.names.map (·.2)).Nodup) (o : OpR) : (usedQ (tryQ q o).2 : Int) ≤ max q.room (usedQ q) := by
  unfold tryQ
  split
  · exact used_write H _ _
  · split
    · exact used_append hd _ _
    · split
      · have := used_rename H o.path.data.toList o.tgt.data.toList; omega
      · split
        · have := used_remove q o.path.data.toList; omega
        · split
          · have := used_sync q o.path.data.toList; omega
          · have := used_syncDir q o.path.data.toList; omega
end Go.Proofs.YtbodkjifpmencaaGreat
namespace Go.Proofs.YtbodkjifpmencaaGreat

theorem chL_change (q : Q) (frm tgt : Bs) (o : Option Nat) (d : Bs) : chL (changeQ q frm tgt o) d = chL q d ++ (if dirL frm = d then [⟨frm, tgt, o⟩] else []) := by
  unfold chL changeQ
  dsimp only
  by_cases h : dirL frm = d
  · subst h
    rw [look_put_same, if_pos rfl]
    rfl
  · rw [look_put_far (Ne.symm h), if_neg h, List.append_nil]
theorem Sim.change {q : Q} {r : R} (S : Sim q r) (frm tgt : Bs) (o : Option Nat) (ho : ∀ k, o = some k → rbody r k = ⟨(qbody q k).now, (qbody q k).now.take (qbody q k).kept⟩) : Sim (changeQ q frm tgt o) (changeR r (dirL frm) (trC ⟨frm, tgt, o⟩)) := by
  refine ⟨S.room, ?_, S.kept, fun d => ?_, S.len, fun k hk => ?_, S.pre, S.loose, S.fails, S.calls⟩
  · show (trC ⟨frm, tgt, o⟩).foldl withR r.names = applyN ⟨frm, tgt, o⟩ q.names
    rw [apply_tr, S.names]
  · rw [chL_change]
    show (((r.changes ++ [(dirL frm, trC ⟨frm, tgt, o⟩)]).filter fun c => decide (c.1 = d)).map (·.2)) = _
    rw [List.filter_append, List.map_append, S.chg d, List.map_append]
    congr 1
    by_cases h : dirL frm = d
    · simp [h]
    · simp [h]
  · show rbody r k = ⟨(qbody q k).now, (qbody q k).now.take (qbody q k).kept⟩
    rcases hk with ⟨x, hx, hk⟩ | hk | ⟨x, hx, c, hc, hk⟩
    · rcases mem_applyN (c := ⟨frm, tgt, o⟩) hx with hx | ⟨_, h⟩
      · exact S.body k (.inl ⟨x, hx, hk⟩)
      · exact ho k (h.trans (by rw [hk]))
    · exact S.body k (.inr (.inl hk))
    · rcases mem_put hx with hx | rfl
      · exact S.body k (.inr (.inr ⟨x, hx, c, hc, hk⟩))
      · rcases List.mem_append.1 hc with hc | hc
        · cases hl : look q.changes (dirL frm) with
          | none => rw [hl] at hc; cases hc
          | some cs => rw [hl] at hc; exact S.body k (.inr (.inr ⟨_, look_mem hl, c, hc, hk⟩))
        · simp at hc
          subst hc
          exact ho k hk
theorem rbody_far {r : R} {k i : Nat} {y : RB2} (h : i ≠ k) : rbody ({ r with bodies := r.bodies.set k y } : R) i = rbody r i := by
  unfold rbody
  dsimp only
  rw [List.getD_eq_getElem?_getD, List.getD_eq_getElem?_getD, List.getElem?_set_ne (Ne.symm h)]
theorem rbody_at {r : R} {k : Nat} {y : RB2} (h : k < r.bodies.length) : rbody ({ r with bodies := r.bodies.set k y } : R) k = y := by
  unfold rbody
  dsimp only
  rw [List.getD_eq_getElem?_getD, List.getElem?_set_self h]
  rfl
theorem Sim.setB {q q' : Q} {r : R} (S : Sim q r) {k : Nat} (hk : k < q.bodies.length) (h1 : q'.names = q.names) (h2 : q'.kept = q.kept) (h3 : q'.changes = q.changes) (h4 : q'.room = q.room) (h5 : q'.told = q.told) (h6 : q'.ahead = q.ahead) (h7 : q'.once = q.once) (hlen : q'.bodies.length = q.bodies.length) (hfar : ∀ i, i ≠ k → qbody q' i = qbody q i) (y : RB2) (hy : y = ⟨(qbody q' k).now, (qbody q' k).now.take (qbody q' k).kept⟩)
    (hl : ∀ i, i ≠ k → ((∃ z ∈ q'.loose, z.1 = i) ↔ ∃ z ∈ q.loose, z.1 = i)) (hlk : (∃ z ∈ q'.loose, z.1 = k) ↔ y.now ≠ y.kept) : Sim q' { r with bodies := r.bodies.set k y } := by
  have hkr : k < r.bodies.length := by rw [S.len]; exact hk
  refine ⟨by rw [h4]; exact S.room, by rw [h1]; exact S.names, by rw [h2]; exact S.kept, fun d => by unfold chL; rw [h3]; exact S.chg d, by rw [hlen, List.length_set]; exact S.len, fun i hi => ?_, fun b hb => ?_, fun i hi => ?_, by rw [h5]; exact S.fails, fun h => by rw [h6, h7]; exact S.calls (by rw [← h5]; exact h)⟩
  · by_cases hik : i = k
    · subst hik
      rw [rbody_at hkr]
      exact hy
    · rw [rbody_far hik, hfar i hik]
      refine S.body i ?_
      unfold Alive at *
      rw [h1, h2, h3] at hi
      exact hi
  · rcases List.mem_or_eq_of_mem_set hb with hb | rfl
    · exact S.pre b hb
    · rw [hy]
      dsimp only
      rw [List.length_take]
      by_cases hle : (qbody q' k).kept ≤ (qbody q' k).now.length
      · rw [Nat.min_eq_left hle]
      · rw [Nat.min_eq_right (by omega), List.take_of_length_le (by omega), List.take_of_length_le (Nat.le_refl _)]
  · by_cases hik : i = k
    · subst hik
      rw [rbody_at hkr]
      exact hlk
    · rw [rbody_far hik, hl i hik]
      exact S.loose i (by rw [← hlen]; exact hi)
theorem mem_put_iff {l : List (Nat × Unit)} {k i : Nat} : (∃ z ∈ putN l k (), z.1 = i) ↔ i = k ∨ ∃ z ∈ l, z.1 = i := by
  unfold putN dropN
  constructor
  · rintro ⟨z, hz, rfl⟩
    rcases List.mem_append.1 hz with hz | hz
    · exact .inr ⟨z, (List.mem_filter.1 hz).1, rfl⟩
    · simp at hz; exact .inl (by rw [hz])
  · rintro (rfl | ⟨z, hz, rfl⟩)
    · exact ⟨(i, ()), by simp, rfl⟩
    · by_cases h : z.1 = k
      · exact ⟨(k, ()), by simp, h.symm⟩
      · exact ⟨z, List.mem_append_left _ (List.mem_filter.2 ⟨hz, by simpa using h⟩), rfl⟩
theorem mem_drop_iff {l : List (Nat × Unit)} {k i : Nat} : (∃ z ∈ dropN l k, z.1 = i) ↔ i ≠ k ∧ ∃ z ∈ l, z.1 = i := by
  unfold dropN
  constructor
  · rintro ⟨z, hz, rfl⟩
    have h := List.mem_filter.1 hz
    exact ⟨by simpa using h.2, z, h.1, rfl⟩
  · rintro ⟨h, z, hz, rfl⟩
    exact ⟨z, List.mem_filter.2 ⟨hz, by simpa using h⟩, rfl⟩
theorem qbody_at {q : Q} {k : Nat} {x : QB} (h : k < q.bodies.length) (q' : Q) (hq : q'.bodies = q.bodies.set k x) : qbody q' k = x := by
  unfold qbody
  rw [hq, List.getD_eq_getElem?_getD, List.getElem?_set_self h]
  rfl
theorem Small.kle {N : Nat} {q : Q} (H : Small N q) (k : Nat) : (qbody q k).kept ≤ (qbody q k).now.length := by
  unfold qbody
  rw [List.getD_eq_getElem?_getD]
  cases h : q.bodies[k]? with
  | none => exact Nat.le_refl _
  | some b => exact (H.now b (List.mem_of_getElem? h)).2
theorem Sim.append {N : Nat} {q : Q} {r : R} (S : Sim q r) (H : Small N q) (p b : Bs) : (appendR r p b).1 = (appendQ q p b).1 ∧ Sim (appendQ q p b).2 (appendR r p b).2 := by
  obtain ⟨e1, S1⟩ := S.begin (rightL p)
  have H1 := H.begin (rightL p)
  unfold appendQ appendR
  rcases hb : beginQ q (rightL p) with ⟨e, q1⟩
  rcases hc : callR r (rightL p) with ⟨e', r1⟩
  rw [hb] at S1 e1 H1
  rw [hc] at S1 e1
  dsimp only at *
  subst e1
  by_cases he : e' = 0
  · rw [if_pos he, if_pos he, show look r1.names p = look q1.names p by rw [S1.names]]
    cases hl : look q1.names p with
    | none => exact ⟨rfl, S1⟩
    | some k =>
      dsimp only
      have hk : k < q1.bodies.length := (H1.kn _ (look_mem hl)).2
      have hal : Alive q1 k := .inl ⟨_, look_mem hl, rfl⟩
      have hrm : hasRoomQ q1 b.length = decide ((usedR r1 : Int) + b.length ≤ r1.room) := by
        unfold hasRoomQ
        rw [S1.used, S1.room]
        congr 1
        exact propext ⟨fun h => by omega, fun h => by omega⟩
      rw [hrm]
      by_cases hroom : (usedR r1 : Int) + b.length ≤ r1.room
      · rw [if_pos hroom, if_pos (by simpa using hroom)]
        refine ⟨rfl, ?_⟩
        obtain ⟨n1, n2, n3⟩ := extend_same q1 k b
        have hkl := H1.kle k
        have hbd := S1.body k hal
        have hlen : (extendQ q1 k b).bodies.length = q1.bodies.length := by unfold extendQ; split <;> simp
        have hqk : qbody (extendQ q1 k b) k = ⟨(qbody q1 k).now ++ b, (qbody q1 k).kept⟩ := by
          unfold extendQ
          split
          · rename_i h; rw [h, List.append_nil]
          · exact qbody_at hk _ rfl
        refine S1.setB hk n1 n2 n3 (extend_room q1 k b) (by unfold extendQ; split <;> rfl) (by unfold extendQ; split <;> rfl) (by unfold extendQ; split <;> rfl) hlen (fun i hi => by
          unfold extendQ
          split
          · rfl
          · exact qbody_set_far rfl hi) ⟨(rbody r1 k).now ++ b, (rbody r1 k).kept⟩ (by rw [hqk, hbd]; dsimp only; rw [List.take_append_of_le_length hkl]) (fun i hi => by
          unfold extendQ
          split
          · rfl
          · exact mem_put_iff.trans ⟨fun h => h.resolve_left hi, .inr⟩) ?_
        rw [hbd]
        dsimp only
        unfold extendQ
        split
        · rename_i h
          subst h
          rw [S1.loose k hk, hbd, List.append_nil]
        · rename_i h
          refine ⟨fun _ e => ?_, fun _ => mem_put_iff.2 (.inl rfl)⟩
          have h1 := congrArg List.length e
          rw [List.length_append, List.length_take] at h1
          exact h (List.eq_nil_of_length_eq_zero (by omega))
      · rw [if_neg hroom, if_neg (by simpa using hroom)]
        exact ⟨rfl, S1⟩
  · rw [if_neg he, if_neg he]
    exact ⟨rfl, S1⟩
theorem Sim.sync {N : Nat} {q : Q} {r : R} (S : Sim q r) (H : Small N q) (p : Bs) : (syncR r p).1 = (syncQ q p).1 ∧ Sim (syncQ q p).2 (syncR r p).2 := by
  obtain ⟨e1, S1⟩ := S.begin (rightL p)
  have H1 := H.begin (rightL p)
  unfold syncQ syncR
  rcases hb : beginQ q (rightL p) with ⟨e, q1⟩
  rcases hc : callR r (rightL p) with ⟨e', r1⟩
  rw [hb] at S1 e1 H1
  rw [hc] at S1 e1
  dsimp only at *
  subst e1
  by_cases he : e' = 0
  · rw [if_pos he, if_pos he, show look r1.names p = look q1.names p by rw [S1.names]]
    cases hl : look q1.names p with
    | none => exact ⟨rfl, S1⟩
    | some k =>
      dsimp only
      have hk : k < q1.bodies.length := (H1.kn _ (look_mem hl)).2
      have hbd := S1.body k (.inl ⟨_, look_mem hl, rfl⟩)
      refine ⟨rfl, S1.setB (q' := { q1 with bodies := q1.bodies.set k ⟨(qbody q1 k).now, (qbody q1 k).now.length⟩, loose := dropN q1.loose k }) hk rfl rfl rfl rfl rfl rfl rfl (by simp) (fun i hi => qbody_set_far rfl hi) ⟨(rbody r1 k).now, (rbody r1 k).now⟩ ?_ (fun i hi => mem_drop_iff.trans ⟨fun h => h.2, fun h => ⟨hi, h⟩⟩) ?_⟩
      · rw [qbody_at hk _ rfl, hbd]
        dsimp only
        rw [List.take_length]
      · refine ⟨fun h => absurd rfl (mem_drop_iff.1 h).1, fun h => absurd rfl h⟩
  · rw [if_neg he, if_neg he]
    exact ⟨rfl, S1⟩
theorem Sim.rename {q : Q} {r : R} (S : Sim q r) (p t : Bs) : (renameR r p t).1 = (renameQ q p t).1 ∧ Sim (renameQ q p t).2 (renameR r p t).2 := by
  obtain ⟨e1, S1⟩ := S.begin (rightL p && rightL t && dirL p == dirL t)
  have h2 := begin_err q (rightL p && rightL t && dirL p == dirL t)
  unfold renameQ renameR
  rcases hb : beginQ q (rightL p && rightL t && dirL p == dirL t) with ⟨e, q1⟩
  rcases hc : callR r (rightL p && rightL t && dirL p == dirL t) with ⟨e', r1⟩
  rw [hb] at S1 e1 h2
  rw [hc] at S1 e1
  dsimp only at *
  subst e1
  by_cases he : e' = 0
  · rw [if_pos he, if_pos he, show look r1.names p = look q1.names p by rw [S1.names]]
    have hr : (rightL p && rightL t && dirL p == dirL t) = true := by rcases h2 with h | h | h <;> simp_all
    simp only [Bool.and_eq_true, beq_iff_eq] at hr
    cases hl : look q1.names p with
    | none => exact ⟨rfl, S1⟩
    | some k =>
      dsimp only
      by_cases hpt : p = t
      · rw [if_pos hpt, if_pos hpt]
        exact ⟨rfl, S1⟩
      · rw [if_neg hpt, if_neg hpt]
        have h := S1.change p t (some k) (fun k' hk' => by cases hk'; exact S1.body k (.inl ⟨_, look_mem hl, rfl⟩))
        have ht : trC ⟨p, t, some k⟩ = [(p, none), (t, some k)] := by unfold trC; dsimp only; rw [if_neg hpt]
        rw [ht, hr.2] at h
        exact ⟨rfl, h⟩
  · rw [if_neg he, if_neg he]
    exact ⟨rfl, S1⟩
theorem Sim.remove {q : Q} {r : R} (S : Sim q r) (p : Bs) : (removeR r p).1 = (removeQ q p).1 ∧ Sim (removeQ q p).2 (removeR r p).2 := by
  obtain ⟨e1, S1⟩ := S.begin (rightL p)
  unfold removeQ removeR
  rcases hb : beginQ q (rightL p) with ⟨e, q1⟩
  rcases hc : callR r (rightL p) with ⟨e', r1⟩
  rw [hb] at S1 e1
  rw [hc] at S1 e1
  dsimp only at *
  subst e1
  by_cases he : e' = 0
  · rw [if_pos he, if_pos he, show look r1.names p = look q1.names p by rw [S1.names]]
    cases hl : look q1.names p with
    | none => exact ⟨rfl, S1⟩
    | some k => exact ⟨rfl, S1.change p p none (fun k' hk' => by cases hk')⟩
  · rw [if_neg he, if_neg he]
    exact ⟨rfl, S1⟩
theorem rbody_old {r : R} {y : RB2} {k : Nat} (h : k < r.bodies.length) : rbody ({ r with bodies := r.bodies ++ [y] } : R) k = rbody r k := by
  unfold rbody
  dsimp only
  rw [List.getD_eq_getElem?_getD, List.getD_eq_getElem?_getD, List.getElem?_append_left h]
theorem rbody_new {r : R} {y : RB2} : rbody ({ r with bodies := r.bodies ++ [y] } : R) r.bodies.length = y := by
  unfold rbody
  dsimp only
  rw [List.getD_eq_getElem?_getD, List.getElem?_append_right (Nat.le_refl _)]
  simp
theorem newBodyQ_far (q : Q) (b : Bs) (k : Nat) (h : k < q.bodies.length) : qbody (newBodyQ q b) k = qbody q k := by
  have h0 : qbody ({ q with bodies := q.bodies ++ [⟨[], 0⟩] } : Q) k = qbody q k := by
    unfold qbody
    dsimp only
    rw [List.getD_eq_getElem?_getD, List.getD_eq_getElem?_getD, List.getElem?_append_left h]
  unfold newBodyQ extendQ
  split
  · exact h0
  · exact (qbody_set_far (q := { q with bodies := q.bodies ++ [⟨[], 0⟩] }) rfl (by omega)).trans h0
theorem newBodyQ_at (q : Q) (b : Bs) : qbody (newBodyQ q b) q.bodies.length = ⟨b, 0⟩ := by
  have h0 : qbody ({ q with bodies := q.bodies ++ [⟨[], 0⟩] } : Q) q.bodies.length = ⟨[], 0⟩ := by
    unfold qbody
    dsimp only
    rw [List.getD_eq_getElem?_getD, List.getElem?_append_right (Nat.le_refl _)]
    simp
  unfold newBodyQ extendQ
  split
  · rename_i h; rw [h]; exact h0
  · rw [qbody_at (q := { q with bodies := q.bodies ++ [⟨[], 0⟩] }) (x := ⟨(qbody ({ q with bodies := q.bodies ++ [⟨[], 0⟩] } : Q) q.bodies.length).now ++ b, (qbody ({ q with bodies := q.bodies ++ [⟨[], 0⟩] } : Q) q.bodies.length).kept⟩) (by simp) _ rfl, h0]
    rfl
theorem newBody_size (q : Q) (b : Bs) : (newBodyQ q b).bodies.length = q.bodies.length + 1 := by
  unfold newBodyQ extendQ
  split <;> simp
theorem Alive.lt {N : Nat} {q : Q} (H : Small N q) {k : Nat} (h : Alive q k) : k < q.bodies.length := by
  rcases h with ⟨x, hx, rfl⟩ | ⟨x, hx, rfl⟩ | ⟨x, hx, c, hc, hk⟩
  · exact (H.kn x hx).2
  · exact (H.kk x hx).2
  · exact ((H.kc x hx).2 c hc).2.2 k hk
theorem Sim.newBody {N : Nat} {q : Q} {r : R} (S : Sim q r) (H : Small N q) (b : Bs) : Sim (newBodyQ q b) { r with bodies := r.bodies ++ [⟨b, []⟩] } := by
  obtain ⟨n1, n2, n3⟩ := extend_same ({ q with bodies := q.bodies ++ [⟨[], 0⟩] } : Q) q.bodies.length b
  have h1 : (newBodyQ q b).names = q.names := n1
  have h2 : (newBodyQ q b).kept = q.kept := n2
  have h3 : (newBodyQ q b).changes = q.changes := n3
  have hal : ∀ k, Alive (newBodyQ q b) k → Alive q k := fun k hk => by
    unfold Alive at *
    rw [h1, h2, h3] at hk
    exact hk
  refine ⟨by rw [show (newBodyQ q b).room = q.room from extend_room _ _ _]; exact S.room, by rw [h1]; exact S.names, by rw [h2]; exact S.kept, fun d => by unfold chL; rw [h3]; exact S.chg d, by rw [newBody_size]; show (r.bodies ++ [_]).length = _; rw [List.length_append, S.len]; rfl, fun k hk => ?_, fun x hx => ?_, fun k hk => ?_, ?_, ?_⟩
  · have hk' := hal k hk
    have hl := hk'.lt H
    rw [rbody_old (by rw [S.len]; exact hl), newBodyQ_far q b k hl]
    exact S.body k hk'
  · rcases List.mem_append.1 hx with hx | hx
    · exact S.pre x hx
    · simp at hx
      subst hx
      rfl
  · rw [newBody_size] at hk
    by_cases hkn : k = q.bodies.length
    · subst hkn
      rw [← S.len, rbody_new, S.len]
      unfold newBodyQ extendQ
      split
      · rename_i h
        rw [h]
        exact ⟨fun ⟨z, hz, e⟩ => by have := H.kl z hz; omega, fun h => absurd rfl h⟩
      · rename_i h
        exact ⟨fun _ => h, fun _ => mem_put_iff.2 (.inl rfl)⟩
    · have hl : k < q.bodies.length := by omega
      rw [rbody_old (by rw [S.len]; exact hl)]
      unfold newBodyQ extendQ
      split
      · exact S.loose k hl
      · exact (mem_put_iff.trans ⟨fun h => h.resolve_left hkn, .inr⟩).trans (S.loose k hl)
  · rw [show (newBodyQ q b).told = q.told by unfold newBodyQ extendQ; split <;> rfl]
    exact S.fails
  · rw [show (newBodyQ q b).told = q.told by unfold newBodyQ extendQ; split <;> rfl, show (newBodyQ q b).ahead = q.ahead by unfold newBodyQ extendQ; split <;> rfl, show (newBodyQ q b).once = q.once by unfold newBodyQ extendQ; split <;> rfl]
    exact S.calls
theorem Sim.write {N : Nat} {q : Q} {r : R} (S : Sim q r) (H : Small N q) (p b : Bs) : (writeR r p b).1 = (writeQ q p b).1 ∧ Sim (writeQ q p b).2 (writeR r p b).2 := by
  obtain ⟨e1, S1⟩ := S.begin (rightL p)
  have H1 := H.begin (rightL p)
  unfold writeQ writeR
  rcases hb : beginQ q (rightL p) with ⟨e, q1⟩
  rcases hc : callR r (rightL p) with ⟨e', r1⟩
  rw [hb] at S1 e1 H1
  rw [hc] at S1 e1
  dsimp only at *
  subst e1
  by_cases he : e' = 0
  · rw [if_pos he, if_pos he]
    have hrm : hasRoomQ q1 ((b.length : Int) - sizeO q1 (look q1.names p)) = decide ((usedR r1 : Int) - sizeR r1 (look r1.names p) + b.length ≤ r1.room) := by
      unfold hasRoomQ
      rw [S1.used, S1.room, S1.size]
      congr 1
      exact propext ⟨fun h => by omega, fun h => by omega⟩
    rw [hrm]
    by_cases hroom : (usedR r1 : Int) - sizeR r1 (look r1.names p) + b.length ≤ r1.room
    · rw [if_pos hroom, if_pos (by simpa using hroom)]
      have h := (S1.newBody H1 b).change p p (some q1.bodies.length) (fun k hk => by
        cases hk
        rw [newBodyQ_at, ← S1.len, rbody_new]
        rfl)
      have ht : trC ⟨p, p, some q1.bodies.length⟩ = [(p, some q1.bodies.length)] := by unfold trC; dsimp only; rw [if_pos rfl]
      rw [ht, ← S1.len] at h
      rw [← S1.len]
      exact ⟨rfl, h⟩
    · rw [if_neg hroom, if_neg (by simpa using hroom)]
      exact ⟨rfl, S1⟩
  · rw [if_neg he, if_neg he]
    exact ⟨rfl, S1⟩
end Go.Proofs.YtbodkjifpmencaaGreat
namespace Go.Proofs.YtbodkjifpmencaaGreat

def vals (l : Nm) : List Nat := l.map (·.2)
theorem mem_vals {l : Nm} {k : Nat} : k ∈ vals l ↔ ∃ p, (p, k) ∈ l := by
  unfold vals
  constructor
  · intro h
    obtain ⟨x, hx, rfl⟩ := List.mem_map.1 h
    exact ⟨x.1, hx⟩
  · rintro ⟨p, hp⟩
    exact List.mem_map.2 ⟨_, hp, rfl⟩
/-- What a change names was named there just ahead of it, by another name, or never before. -/
structure Once (q : Q) : Prop where
  fresh : ∀ d i (hi : i < (chL q d).length) k, (chL q d)[i].body = some k → (((chL q d)[i].frm, k) ∈ appAll ((chL q d).take i) (inD d q.kept) ∧ (chL q d)[i].frm ≠ (chL q d)[i].to) ∨ ∀ j, j ≤ i → k ∉ vals (appAll ((chL q d).take j) (inD d q.kept))
  ne : ∀ x ∈ q.changes, x.2 ≠ []
  rem : ∀ d, ∀ c ∈ chL q d, c.body = none → c.frm = c.to
theorem appAll_take_succ (cs : List QC) (l : Nm) (i : Nat) (h : i < cs.length) : appAll (cs.take (i + 1)) l = applyN cs[i] (appAll (cs.take i) l) := by
  rw [List.take_succ_eq_append_getElem h, appAll_snoc]
theorem mem_apply_val {c : QC} {l : Nm} {g : Nat} (hr : c.body = none → c.frm = c.to) (h : g ∈ vals (applyN c l)) : (∃ p, (p, g) ∈ l ∧ p ≠ c.to) ∨ c.body = some g := by
  obtain ⟨p, hp⟩ := mem_vals.1 h
  unfold applyN at hp
  cases hb : c.body with
  | none =>
    rw [hb] at hp
    have h1 := List.mem_filter.1 (show (p, g) ∈ dropN l c.frm from hp)
    exact .inl ⟨p, h1.1, by rw [← hr hb]; simpa using h1.2⟩
  | some k =>
    rw [hb] at hp
    rcases List.mem_append.1 (show (p, g) ∈ dropN (dropN l c.frm) c.to ++ [(c.to, k)] from hp) with hp | hp
    · have h1 := List.mem_filter.1 hp
      exact .inl ⟨p, mem_drop (mem_drop hp), by simpa using h1.2⟩
    · simp at hp
      exact .inr (by rw [hp.2])
/-- What a change lets go is named by none of the states behind it. -/
theorem gone_for_good {h : Nat → Bs} {q : Q} (H : Home h q) (O : Once q) (d : Bs) (i : Nat) (hi : i < (chL q d).length) (g : Nat) (hg : look (appAll ((chL q d).take i) (inD d q.kept)) (chL q d)[i].to = some g) : ∀ j, i < j → j ≤ (chL q d).length → g ∉ vals (appAll ((chL q d).take j) (inD d q.kept)) := by
  have hgi : ((chL q d)[i].to, g) ∈ appAll ((chL q d).take i) (inD d q.kept) := look_mem hg
  have hnd := H.inj d i (by omega)
  intro j
  induction j with
  | zero => intro h; omega
  | succ j ih =>
    intro hij hj
    rw [appAll_take_succ _ _ j (by omega)]
    intro hm
    have hrem : (chL q d)[j].body = none → (chL q d)[j].frm = (chL q d)[j].to := O.rem d _ (List.getElem_mem _)
    rcases mem_apply_val hrem hm with ⟨p, hp, hpt⟩ | hb
    · by_cases hji : j = i
      · subst hji
        have := snd_inj hnd hp hgi rfl
        injection this with h1 _
        exact hpt h1
      · exact ih (by omega) (by omega) (mem_vals.2 ⟨p, hp⟩)
    · rcases O.fresh d j (by omega) g hb with ⟨h1, h2⟩ | h1
      · by_cases hji : j = i
        · subst hji
          have := snd_inj hnd h1 hgi rfl
          injection this with h3 _
          exact h2 h3
        · exact ih (by omega) (by omega) (mem_vals.2 ⟨_, h1⟩)
      · exact h1 i (by omega) (mem_vals.2 ⟨_, hgi⟩)
/-- A body that is never let go keeps its bytes. -/
theorem keepQ_body {q : Q} {k : Nat} (cs : List QC) (h : ∀ i (hi : i < cs.length), look (appAll (cs.take i) q.kept) cs[i].to ≠ some k) : ∀ n, n ≤ cs.length → qbody (keepQ q (cs.take n)) k = qbody q k := by
  intro n
  induction n with
  | zero => intro _; rfl
  | succ n ih =>
    intro hn
    have h1 := ih (by omega)
    have h2 := h n (by omega)
    rw [List.take_succ_eq_append_getElem (show n < cs.length by omega), keepQ_snoc, ← h1]
    unfold keep1Q goneQ
    rw [keepQ_kept]
    cases hl : look (appAll (cs.take n) q.kept) cs[n].to with
    | none => rfl
    | some g => exact qbody_set_far rfl (fun e => h2 (by rw [hl, e]))
theorem find_inD (l : Nm) (p d : Bs) (hp : dirL p = d) : look (inD d l) p = look l p := by
  subst hp
  unfold look inD
  rw [List.find?_filter]
  congr 1
  congr 1
  funext x
  by_cases hx : x.1 = p
  · simp [hx]
  · simp [hx]
/-- What isn't at home there, or is named behind the kept changes, is not let go by them. -/
theorem not_gone {h : Nat → Bs} {q : Q} (H : Home h q) (O : Once q) (d : Bs) (n : Nat) (hn : n ≤ (chL q d).length) (k : Nat) (hk : h k ≠ d ∨ k ∈ vals (appAll ((chL q d).take n) (inD d q.kept))) : qbody (keepQ q ((chL q d).take n)) k = qbody q k := by
  have hcs := H.chL d
  have hl : ((chL q d).take n).length = n := by rw [List.length_take]; omega
  have := keepQ_body (q := q) (k := k) ((chL q d).take n) (fun i hi e => ?_) n (by omega)
  · rw [List.take_take, Nat.min_self] at this
    exact this
  · have hin : i < n := by omega
    have hic : i < (chL q d).length := by omega
    rw [List.take_take, Nat.min_eq_left (by omega)] at e
    have hget : ((chL q d).take n)[i] = (chL q d)[i] := by rw [List.getElem_take]
    rw [hget] at e
    have hdir := (hcs _ (List.getElem_mem hic)).2.1
    have e2 : look (appAll ((chL q d).take i) (inD d q.kept)) (chL q d)[i].to = some k := by
      rw [← inD_all d _ (fun c hc => by have := hcs c (List.mem_of_mem_take hc); exact ⟨this.1, this.2.1⟩), find_inD _ _ _ hdir]
      exact e
    rcases hk with hk | hk
    · have hm := look_mem e2
      have hh : dirL (chL q d)[i].to = h k := by
        rcases mem_appAll hm with hm | ⟨c, hc, h1, h2⟩
        · exact H.kept _ (List.mem_filter.1 hm).1
        · have := hcs c (List.mem_of_mem_take hc)
          rw [hdir]
          exact (this.2.2 _ h2).symm
      exact hk (by rw [← hh, hdir])
    · exact gone_for_good H O d i hic k e2 n hin hn hk
/-! ### The document's keep -/
theorem keepGo_fst (d : Bs) : ∀ (cs : List RCh) (n : Nat) (l : Nm), (keepGo d cs n l).1 = (((cs.filter fun c => decide (c.1 = d)).map (·.2)).take n).foldl (fun l x => x.foldl withR l) l
  | [], n, l => by simp [keepGo]
  | c :: cs, n, l => by
    unfold keepGo
    by_cases hc : c.1 = d
    · rw [List.filter_cons_of_pos (by simpa using hc), List.map_cons]
      cases n with
      | zero => rw [if_pos (.inr rfl)]; dsimp only; rw [keepGo_fst]; simp
      | succ n => rw [if_neg (by simp [hc]), keepGo_fst]; rfl
    · rw [if_pos (.inl hc), List.filter_cons_of_neg (by simpa using hc)]
      exact keepGo_fst d cs n l
theorem keepGo_far (d e : Bs) (he : e ≠ d) : ∀ (cs : List RCh) (n : Nat) (l : Nm), (keepGo d cs n l).2.filter (fun c => decide (c.1 = e)) = cs.filter fun c => decide (c.1 = e)
  | [], n, l => by simp [keepGo]
  | c :: cs, n, l => by
    unfold keepGo
    split
    · dsimp only
      rw [List.filter_cons, List.filter_cons, keepGo_far d e he cs n l]
    · rename_i h
      have hc : c.1 = d := Classical.byContradiction fun h' => h (.inl h')
      rw [keepGo_far d e he, List.filter_cons_of_neg (by rw [hc]; simpa using Ne.symm he)]
theorem keepGo_at (d : Bs) : ∀ (cs : List RCh) (n : Nat) (l : Nm), (keepGo d cs n l).2.filter (fun c => decide (c.1 = d)) = (cs.filter fun c => decide (c.1 = d)).drop n
  | [], n, l => by simp [keepGo]
  | c :: cs, n, l => by
    unfold keepGo
    by_cases hc : c.1 = d
    · cases n with
      | zero => rw [if_pos (.inr rfl)]; dsimp only; rw [List.filter_cons, List.filter_cons, keepGo_at d cs 0 l]; simp
      | succ n => rw [if_neg (by simp [hc]), keepGo_at, List.filter_cons_of_pos (by simpa using hc)]; rfl
    · rw [if_pos (.inl hc)]
      dsimp only
      rw [List.filter_cons_of_neg (by simpa using hc), List.filter_cons_of_neg (by simpa using hc)]
      exact keepGo_at d cs n l
theorem appAll_tr : ∀ (cs : List QC) (l : Nm), appAll cs l = (cs.map trC).foldl (fun l x => x.foldl withR l) l
  | [], _ => rfl
  | c :: cs, l => by
    show appAll cs (applyN c l) = _
    rw [appAll_tr, apply_tr]
    rfl
theorem keepQ_length (q : Q) : ∀ cs : List QC, (keepQ q cs).bodies.length = q.bodies.length := by
  intro cs
  unfold keepQ
  induction cs generalizing q with
  | nil => rfl
  | cons c cs ih =>
    rw [List.foldl_cons, ih]
    unfold keep1Q goneQ
    cases look q.kept c.to <;> simp
theorem Sim.syncDir {h : Nat → Bs} {q : Q} {r : R} (S : Sim q r) (H : Home h q) (O : Once q) (d : Bs) : (syncDirR r d).1 = (syncDirQ q d).1 ∧ Sim (syncDirQ q d).2 (syncDirR r d).2 := by
  obtain ⟨e1, S1⟩ := S.begin (d == [] || isPartL d)
  have H1 := H.begin (d == [] || isPartL d)
  have O1 : Once (beginQ q (d == [] || isPartL d)).2 := by
    obtain ⟨_, h2, h3, _, _⟩ := begin_same5 q (d == [] || isPartL d)
    refine ⟨fun d' i hi k hk => ?_, by rw [h3]; exact O.ne, fun d' => by unfold chL; rw [h3]; exact O.rem d'⟩
    have hc : chL (beginQ q (d == [] || isPartL d)).2 d' = chL q d' := by unfold chL; rw [h3]
    simp only [hc, h2] at hi hk ⊢
    exact O.fresh d' i hi k hk
  unfold syncDirQ syncDirR
  rcases hb : beginQ q (d == [] || isPartL d) with ⟨e, q1⟩
  rcases hc : callR r (d == [] || isPartL d) with ⟨e', r1⟩
  rw [hb] at S1 e1 H1 O1
  rw [hc] at S1 e1
  dsimp only at *
  subst e1
  by_cases he : e' = 0
  · rw [if_pos he, if_pos he]
    refine ⟨rfl, ?_⟩
    obtain ⟨s1, s2, s3, s4, s5, s6, s7⟩ := keepQ_same q1 (chL q1 d)
    have hkept := keepQ_kept q1 (chL q1 d)
    have hcs := H1.chL d
    change Sim { keepQ q1 (chL q1 d) with changes := dropN (keepQ q1 (chL q1 d)).changes d } (keepR r1 d r1.changes.length)
    have hlen : (r1.changes.filter fun c => decide (c.1 = d)).length ≤ r1.changes.length := List.length_filter_le _ _
    have hng : ∀ k, (h k ≠ d ∨ k ∈ vals (appAll (chL q1 d) (inD d q1.kept))) → qbody (keepQ q1 (chL q1 d)) k = qbody q1 k := fun k hk => by
      have := not_gone H1 O1 d (chL q1 d).length (Nat.le_refl _) k (by rw [List.take_length]; exact hk)
      rwa [List.take_length] at this
    refine ⟨by show r1.room = (keepQ q1 (chL q1 d)).room; rw [s4]; exact S1.room, by show r1.names = (keepQ q1 (chL q1 d)).names; rw [s1]; exact S1.names, ?_, fun e => ?_, by show r1.bodies.length = (keepQ q1 (chL q1 d)).bodies.length; rw [keepQ_length]; exact S1.len, fun k hk => ?_, S1.pre, fun k hk => ?_, by show r1.fails = (keepQ q1 (chL q1 d)).told; rw [s5]; exact S1.fails, fun ht => ?_⟩
    · show (keepGo d r1.changes r1.changes.length r1.kept).1 = (keepQ q1 (chL q1 d)).kept
      rw [keepGo_fst, hkept, appAll_tr, S1.kept, List.take_of_length_le (by simpa using hlen), S1.chg d]
    · show ((keepGo d r1.changes r1.changes.length r1.kept).2.filter fun c => decide (c.1 = e)).map (·.2) = ((look (dropN (keepQ q1 (chL q1 d)).changes d) e).getD []).map trC
      by_cases hed : e = d
      · subst hed
        rw [keepGo_at, List.drop_of_length_le hlen, look_drop_same]
        rfl
      · rw [keepGo_far d e hed, look_drop_far hed, s2]
        exact S1.chg e
    · show rbody r1 k = ⟨(qbody (keepQ q1 (chL q1 d)) k).now, (qbody (keepQ q1 (chL q1 d)) k).now.take (qbody (keepQ q1 (chL q1 d)) k).kept⟩
      have key : Alive q1 k ∧ (h k ≠ d ∨ k ∈ vals (appAll (chL q1 d) (inD d q1.kept))) := by
        rcases hk with ⟨x, hx, hxk⟩ | ⟨x, hx, hxk⟩ | ⟨x, hx, c, hc, hck⟩
        · have hx' : x ∈ q1.names := by rw [← s1]; exact hx
          refine ⟨.inl ⟨x, hx', hxk⟩, ?_⟩
          by_cases hd : h k = d
          · right
            rw [← H1.names d]
            refine mem_vals.2 ⟨x.1, List.mem_filter.2 ⟨by rw [← hxk]; exact hx', ?_⟩⟩
            simp only [decide_eq_true_eq]
            rw [H1.name hx', hxk]
            exact hd
          · exact .inl hd
        · have hx' : x ∈ appAll (chL q1 d) q1.kept := by rw [← hkept]; exact hx
          refine ⟨?_, ?_⟩
          · rcases mem_appAll hx' with h1 | ⟨c, hc, _, h2⟩
            · exact .inr (.inl ⟨x, h1, hxk⟩)
            · cases hl : look q1.changes d with
              | none => unfold chL at hc; rw [hl] at hc; cases hc
              | some cs => unfold chL at hc; rw [hl] at hc; exact .inr (.inr ⟨_, look_mem hl, c, hc, by rw [h2, hxk]⟩)
          · by_cases hd : h k = d
            · right
              rw [← inD_all d _ (fun c hc => ⟨(hcs c hc).1, (hcs c hc).2.1⟩)]
              refine mem_vals.2 ⟨x.1, List.mem_filter.2 ⟨by rw [← hxk]; exact hx', ?_⟩⟩
              simp only [decide_eq_true_eq]
              rcases mem_appAll hx' with h1 | ⟨c, hc, h1, h2⟩
              · rw [H1.kept x h1, hxk]; exact hd
              · rw [h1]; exact (hcs c hc).2.1
            · exact .inl hd
        · have hx' : x ∈ dropN (keepQ q1 (chL q1 d)).changes d := hx
          rw [s2] at hx'
          have hne : x.1 ≠ d := by have := (List.mem_filter.1 hx').2; simpa using this
          exact ⟨.inr (.inr ⟨x, mem_drop hx', c, hc, hck⟩), .inl (by rw [(H1.chg x (mem_drop hx') c hc).2.2 k hck]; exact hne)⟩
      rw [hng k key.2]
      exact S1.body k key.1
    · show (∃ x ∈ (keepQ q1 (chL q1 d)).loose, x.1 = k) ↔ _
      rw [s3]
      exact S1.loose k (by rw [← keepQ_length q1 (chL q1 d)]; exact hk)
    · show r1.calls = max (keepQ q1 (chL q1 d)).ahead 0 ∧ r1.once = (keepQ q1 (chL q1 d)).once
      rw [s6, s7]
      exact S1.calls (by rw [← s5]; exact ht)
  · rw [if_neg he, if_neg he]
    exact ⟨rfl, S1⟩
end Go.Proofs.YtbodkjifpmencaaGreat
