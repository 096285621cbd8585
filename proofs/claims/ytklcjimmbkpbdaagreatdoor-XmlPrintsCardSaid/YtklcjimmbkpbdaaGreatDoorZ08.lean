/-
  The disk of layer 6 as plain functions: paths, names, changes, what a crash leaves, as the program has it. No conditions.
-/
import Derived.Lib.Hide
namespace Go.Proofs.YtklcjimmbkpbdaaGreatDoor

abbrev Bs := List UInt8
/-! ### Paths -/
def inPartB (c : UInt8) : Bool := decide (97 ≤ c.toNat ∧ c.toNat ≤ 122 ∨ 65 ≤ c.toNat ∧ c.toNat ≤ 90 ∨ 48 ≤ c.toNat ∧ c.toNat ≤ 57 ∨ c.toNat = 45 ∨ c.toNat = 95 ∨ c.toNat = 46)
def isPartL (s : Bs) : Bool := decide (1 ≤ s.length) && decide (s.length ≤ 80) && !(s == [46]) && !(s == [46, 46]) && s.all inPartB
def cutS : Bs → Option (Bs × Bs)
  | [] => none
  | c :: r => if c = 47 then some ([], r) else (cutS r).map fun p => (c :: p.1, p.2)
def rightL (p : Bs) : Bool := match cutS p with | some (a, b) => isPartL a && isPartL b | none => isPartL p
def dirL (p : Bs) : Bs := match cutS p with | some (a, _) => a | none => []
theorem cutS_yes : ∀ (a b : Bs), 47 ∉ a → cutS (a ++ 47 :: b) = some (a, b)
  | [], b, _ => rfl
  | c :: a, b, h => by
    have h1 : c ≠ 47 := fun e => h (by simp [e])
    have h2 : 47 ∉ a := fun e => h (by simp [e])
    simp [cutS, h1, cutS_yes a b h2]
theorem cutS_no : ∀ (a : Bs), 47 ∉ a → cutS a = none
  | [], _ => rfl
  | c :: a, h => by
    have h1 : c ≠ 47 := fun e => h (by simp [e])
    have h2 : 47 ∉ a := fun e => h (by simp [e])
    simp [cutS, h1, cutS_no a h2]
theorem isPart_len {s : Bs} (h : isPartL s = true) : 1 ≤ s.length ∧ s.length ≤ 80 := by
  simp [isPartL] at h; exact ⟨h.1.1.1.1, h.1.1.1.2⟩
theorem cutS_len : ∀ {p a b : Bs}, cutS p = some (a, b) → p.length = a.length + 1 + b.length
  | [], _, _, h => by simp [cutS] at h
  | c :: r, a, b, h => by
    unfold cutS at h
    split at h
    · simp at h; obtain ⟨rfl, rfl⟩ := h; simp; omega
    · cases hr : cutS r with
      | none => simp [hr] at h
      | some q =>
        simp [hr] at h
        obtain ⟨rfl, rfl⟩ := h
        have := cutS_len hr
        simp [this]; omega
theorem right_len {p : Bs} (h : rightL p = true) : p.length ≤ 161 := by
  unfold rightL at h
  cases hc : cutS p with
  | none => rw [hc] at h; have := isPart_len h; omega
  | some q =>
    obtain ⟨a, b⟩ := q
    rw [hc] at h
    simp at h
    have h1 := isPart_len h.1
    have h2 := isPart_len h.2
    have := cutS_len hc
    omega
/-! ### Lists of pairs, as maps -/
section
variable {κ β : Type} [DecidableEq κ]
def look (l : List (κ × β)) (p : κ) : Option β := (l.find? fun x => decide (x.1 = p)).map (·.2)
def dropN (l : List (κ × β)) (p : κ) : List (κ × β) := l.filter fun x => decide (x.1 ≠ p)
def putN (l : List (κ × β)) (p : κ) (k : β) : List (κ × β) := dropN l p ++ [(p, k)]
end
abbrev Nm := List (Bs × Nat)
/-! ### The program's disk -/
structure QB where
  now : Bs
  kept : Nat
structure QC where
  frm : Bs
  to : Bs
  body : Option Nat
structure Q where
  room : Int
  bodies : List QB
  names : Nm
  kept : Nm
  changes : List (Bs × List QC)
  loose : List (Nat × Unit)
  told : Bool
  ahead : Int
  once : Bool
def qNew (room : Int) : Q := ⟨max room 0, [], [], [], [], [], false, 0, false⟩
def qbody (q : Q) (k : Nat) : QB := q.bodies.getD k ⟨[], 0⟩
def sizeO (q : Q) (o : Option Nat) : Nat := match o with | none => 0 | some k => (qbody q k).now.length
def usedQ (q : Q) : Nat := (q.names.map fun x => (qbody q x.2).now.length).sum
/-- A call is counted: does it fail? -/
def strikeQ (q : Q) : Bool × Q :=
  if q.told then if 0 < q.ahead then (false, { q with ahead := q.ahead - 1 }) else (true, { q with told := !q.once }) else (false, q)
def beginQ (q : Q) (right : Bool) : Int × Q :=
  if right then match strikeQ q with | (true, q') => (62, q') | (false, q') => (0, q') else (2, q)
def extendQ (q : Q) (k : Nat) (b : Bs) : Q :=
  if b = [] then q else { q with bodies := q.bodies.set k ⟨(qbody q k).now ++ b, (qbody q k).kept⟩, loose := putN q.loose k () }
def newBodyQ (q : Q) (b : Bs) : Q := extendQ { q with bodies := q.bodies ++ [⟨[], 0⟩] } q.bodies.length b
def applyN (c : QC) (l : Nm) : Nm :=
  match c.body with | some k => putN (dropN l c.frm) c.to k | none => dropN l c.frm
def changeQ (q : Q) (frm to : Bs) (b : Option Nat) : Q :=
  { q with names := applyN ⟨frm, to, b⟩ q.names, changes := putN q.changes (dirL frm) ((look q.changes (dirL frm)).getD [] ++ [⟨frm, to, b⟩]) }
def hasRoomQ (q : Q) (more : Int) : Bool := decide (more ≤ q.room - usedQ q)
def writeQ (q : Q) (p b : Bs) : Int × Q :=
  match beginQ q (rightL p) with
  | (e, q) => if e = 0 then
      if hasRoomQ q ((b.length : Int) - sizeO q (look q.names p)) then (0, changeQ (newBodyQ q b) p p (some q.bodies.length)) else (61, q)
    else (e, q)
def appendQ (q : Q) (p b : Bs) : Int × Q :=
  match beginQ q (rightL p) with
  | (e, q) => if e = 0 then
      match look q.names p with
      | none => (60, q)
      | some k => if hasRoomQ q b.length then (0, extendQ q k b) else (61, q)
    else (e, q)
def readQ (q : Q) (p : Bs) : Option Bs := (look q.names p).map fun k => (qbody q k).now
def renameQ (q : Q) (frm to : Bs) : Int × Q :=
  match beginQ q (rightL frm && rightL to && dirL frm == dirL to) with
  | (e, q) => if e = 0 then
      match look q.names frm with
      | none => (60, q)
      | some k => (0, if frm = to then q else changeQ q frm to (some k))
    else (e, q)
def removeQ (q : Q) (p : Bs) : Int × Q :=
  match beginQ q (rightL p) with
  | (e, q) => if e = 0 then
      match look q.names p with
      | none => (60, q)
      | some _ => (0, changeQ q p p none)
    else (e, q)
def syncQ (q : Q) (p : Bs) : Int × Q :=
  match beginQ q (rightL p) with
  | (e, q) => if e = 0 then
      match look q.names p with
      | none => (60, q)
      | some k => (0, { q with bodies := q.bodies.set k ⟨(qbody q k).now, (qbody q k).now.length⟩, loose := dropN q.loose k })
    else (e, q)
def goneQ (q : Q) (o : Option Nat) : Q := match o with | none => q | some g => { q with bodies := q.bodies.set g ⟨[], 0⟩ }
def keep1Q (q : Q) (c : QC) : Q := goneQ { q with kept := applyN c q.kept } (look q.kept c.to)
def keepQ (q : Q) (cs : List QC) : Q := cs.foldl keep1Q q
def syncDirQ (q : Q) (d : Bs) : Int × Q :=
  match beginQ q (d == [] || isPartL d) with
  | (e, q) => if e = 0 then
      (0, { keepQ q ((look q.changes d).getD []) with changes := dropN (keepQ q ((look q.changes d).getD [])).changes d })
    else (e, q)
def leB2 (x y : Bs) : Bool := decide (x ≤ y)
def listQ (q : Q) (d : Bs) : List Bs := ((q.names.map (·.1)).filter fun p => dirL p == d).mergeSort leB2
def failQ (q : Q) (calls : Int) (once : Bool) : Q := { q with told := true, ahead := calls, once := once }
/-- The next number's rest. -/
def nextQ (ks : List Int) (most : Nat) : Nat × List Int := match ks with | [] => (0, []) | n :: r => ((n % ((most : Int) + 1)).toNat, r)
def stay1Q (s : Q × List Int) (k : Nat) : Q × List Int :=
  let b := qbody s.1 k
  let n := nextQ s.2 (b.now.length - b.kept)
  ({ s.1 with bodies := s.1.bodies.set k ⟨b.now.take (b.kept + n.1), b.kept + n.1⟩ }, n.2)
def keepDir1Q (s : Q × List Int) (d : Bs) : Q × List Int :=
  let cs := (look s.1.changes d).getD []
  let n := nextQ s.2 cs.length
  (keepQ s.1 (cs.take n.1), n.2)
def crashA (q : Q) (ks : List Int) : Q × List Int := ((q.loose.map (·.1)).mergeSort (fun x y => decide (x ≤ y))).foldl stay1Q (q, ks)
def crashB (s : Q × List Int) : Q × List Int := ((s.1.changes.map (·.1)).mergeSort leB2).foldl keepDir1Q ({ s.1 with loose := [] }, s.2)
def crashQ (q : Q) (ks : List Int) : Q :=
  let s := crashB (crashA q ks)
  { s.1 with changes := [], names := s.1.kept, told := false, ahead := 0, once := false }
/-! ### Bounds -/
structure Small (N : Nat) (q : Q) : Prop where
  nb : q.bodies.length ≤ N
  nn : q.names.length ≤ N
  nk : q.kept.length + (q.changes.map fun x => x.2.length).sum ≤ N
  nc : q.changes.length ≤ N
  nl : q.loose.length ≤ N
  now : ∀ b ∈ q.bodies, b.now.length ≤ N ∧ b.kept ≤ b.now.length
  kn : ∀ x ∈ q.names, x.1.length ≤ 161 ∧ x.2 < q.bodies.length
  kk : ∀ x ∈ q.kept, x.1.length ≤ 161 ∧ x.2 < q.bodies.length
  kc : ∀ x ∈ q.changes, x.1.length ≤ 161 ∧ ∀ c ∈ x.2, c.frm.length ≤ 161 ∧ c.to.length ≤ 161 ∧ ∀ k, c.body = some k → k < q.bodies.length
  kl : ∀ x ∈ q.loose, x.1 < q.bodies.length
  r0 : 0 ≤ q.room
  r1 : q.room ≤ 9223372036854775807
  a0 : -9223372036854775808 ≤ q.ahead
  a1 : q.ahead ≤ 9223372036854775807
  dn : (q.names.map (·.1)).Nodup
  dk : (q.kept.map (·.1)).Nodup
  dc : (q.changes.map (·.1)).Nodup
  dl : (q.loose.map (·.1)).Nodup
section
variable {κ β : Type} [DecidableEq κ]
theorem look_mem {l : List (κ × β)} {p : κ} {k : β} (h : look l p = some k) : (p, k) ∈ l := by
  unfold look at h
  cases hf : l.find? (fun x => decide (x.1 = p)) with
  | none => rw [hf] at h; cases h
  | some x =>
    rw [hf] at h
    have h1 := List.find?_some hf
    have h2 := List.mem_of_find?_eq_some hf
    simp at h h1
    rw [← h, ← h1]
    exact h2
theorem look_of_mem : ∀ {l : List (κ × β)} {x : κ × β}, (l.map (·.1)).Nodup → x ∈ l → look l x.1 = some x.2
  | y :: r, x, hd, h => by
    rw [List.map_cons, List.nodup_cons] at hd
    rcases List.mem_cons.1 h with rfl | h
    · simp [look]
    · have hne : y.1 ≠ x.1 := fun e => hd.1 (e ▸ List.mem_map_of_mem h)
      have := look_of_mem hd.2 h
      unfold look at this ⊢
      rw [List.find?_cons_of_neg (by simpa using hne)]
      exact this
theorem look_none {l : List (κ × β)} {p : κ} (h : look l p = none) : p ∉ l.map (·.1) := by
  intro hm
  obtain ⟨x, hx, rfl⟩ := List.mem_map.1 hm
  unfold look at h
  rw [Option.map_eq_none_iff, List.find?_eq_none] at h
  exact h x hx (by simp)
end
theorem Small.name {N : Nat} {q : Q} (h : Small N q) {p : Bs} {k : Nat} (hk : look q.names p = some k) : k < q.bodies.length := (h.kn _ (look_mem hk)).2
theorem Small.body {N : Nat} {q : Q} (h : Small N q) (k : Nat) : (qbody q k).now.length ≤ N ∧ (qbody q k).kept ≤ (qbody q k).now.length := by
  unfold qbody
  by_cases hk : k < q.bodies.length
  · rw [List.getD_eq_getElem?_getD, List.getElem?_eq_getElem hk]
    exact h.now _ (List.getElem_mem hk)
  · rw [List.getD_eq_getElem?_getD, List.getElem?_eq_none (by omega)]
    simp
theorem used_sum {q : Q} (h : (q.names.map (·.1)).Nodup) : ((q.names.map (·.1)).map fun p => sizeO q (look q.names p)).sum = usedQ q := by
  unfold usedQ
  rw [List.map_map]
  congr 1
  refine List.map_congr_left (fun x hx => ?_)
  show sizeO q (look q.names x.1) = _
  rw [look_of_mem h hx]; rfl
theorem sum_le {α : Type} (f : α → Nat) (N : Nat) : ∀ l : List α, (∀ x ∈ l, f x ≤ N) → (l.map f).sum ≤ l.length * N
  | [], _ => by simp
  | x :: r, h => by
    have h1 := h x (by simp)
    have h2 := sum_le f N r (fun y hy => h y (by simp [hy]))
    simp only [List.map_cons, List.sum_cons, List.length_cons, Nat.add_mul, Nat.one_mul]
    omega
theorem Small.used {N : Nat} {q : Q} (h : Small N q) : usedQ q ≤ N * N := by
  have := sum_le (fun x : Bs × Nat => (qbody q x.2).now.length) N q.names (fun x _ => (h.body x.2).1)
  exact Nat.le_trans this (Nat.mul_le_mul_right N h.nn)
theorem Small.size {N : Nat} {q : Q} (h : Small N q) (o : Option Nat) : sizeO q o ≤ N := by
  cases o with
  | none => exact Nat.zero_le _
  | some k => exact (h.body k).1
/-! ### Changes that are kept -/
theorem mem_applyN {c : QC} {l : Nm} {x : Bs × Nat} (h : x ∈ applyN c l) : x ∈ l ∨ (x.1 = c.to ∧ c.body = some x.2) := by
  unfold applyN at h
  cases hb : c.body with
  | none => rw [hb] at h; exact .inl (List.mem_filter.1 h).1
  | some k =>
    rw [hb] at h
    unfold putN at h
    rcases List.mem_append.1 h with h | h
    · exact .inl (List.mem_filter.1 (List.mem_filter.1 h).1).1
    · simp at h; rw [h]; exact .inr ⟨rfl, rfl⟩
theorem len_applyN (c : QC) (l : Nm) : (applyN c l).length ≤ l.length + 1 := by
  unfold applyN
  have h1 : (dropN l c.frm).length ≤ l.length := List.length_filter_le _ _
  cases c.body with
  | none => show (dropN l c.frm).length ≤ _; omega
  | some k =>
    simp only [putN, List.length_append, List.length_singleton]
    have h2 : (dropN (dropN l c.frm) c.to).length ≤ (dropN l c.frm).length := List.length_filter_le _ _
    omega
theorem gone_len (q : Q) (o : Option Nat) : (goneQ q o).bodies.length = q.bodies.length := by cases o <;> simp [goneQ]
theorem gone_kept (q : Q) (o : Option Nat) : (goneQ q o).kept = q.kept := by cases o <;> rfl
theorem keep1_kept (q : Q) (c : QC) : (keep1Q q c).kept = applyN c q.kept := gone_kept _ _
theorem keep1_len (q : Q) (c : QC) : (keep1Q q c).bodies.length = q.bodies.length := gone_len _ _
theorem keepQ_snoc (q : Q) (cs : List QC) (c : QC) : keepQ q (cs ++ [c]) = keep1Q (keepQ q cs) c := by simp [keepQ, List.foldl_append]
/-- What holds while changes are kept. -/
structure Keeps (M : Nat) (q : Q) : Prop where
  len : q.kept.length ≤ M
  ok : ∀ x ∈ q.kept, x.1.length ≤ 161 ∧ x.2 < q.bodies.length
theorem Keeps.step {M : Nat} {q : Q} (h : Keeps M q) (c : QC) (ht : c.to.length ≤ 161) (hb : ∀ k, c.body = some k → k < q.bodies.length) : Keeps (M + 1) (keep1Q q c) := by
  refine ⟨?_, ?_⟩
  · rw [keep1_kept]; have := len_applyN c q.kept; have := h.len; omega
  · intro x hx
    rw [keep1_kept] at hx
    rw [keep1_len]
    rcases mem_applyN hx with h1 | ⟨h1, h2⟩
    · exact h.ok x h1
    · exact ⟨by rw [h1]; exact ht, hb _ h2⟩
theorem keepQ_len (q : Q) : ∀ cs : List QC, (keepQ q cs).bodies.length = q.bodies.length := by
  intro cs
  unfold keepQ
  induction cs generalizing q with
  | nil => rfl
  | cons c r ih => rw [List.foldl_cons, ih, keep1_len]
theorem Keeps.take {M : Nat} {q : Q} (h : Keeps M q) (cs : List QC) (hc : ∀ c ∈ cs, c.to.length ≤ 161 ∧ ∀ k, c.body = some k → k < q.bodies.length) : ∀ k, k ≤ cs.length → Keeps (M + k) (keepQ q (cs.take k)) := by
  intro k
  induction k with
  | zero => intro _; simpa [keepQ] using h
  | succ k ih =>
    intro hk
    have h1 := ih (by omega)
    rw [List.take_succ_eq_append_getElem (by omega), keepQ_snoc]
    have hm := hc cs[k] (List.getElem_mem (by omega))
    have := h1.step cs[k] hm.1 (fun j hj => by rw [keepQ_len]; exact hm.2 j hj)
    exact this
theorem Small.keeps {N : Nat} {q : Q} (h : Small N q) : Keeps q.kept.length q := ⟨Nat.le_refl _, h.kk⟩
end Go.Proofs.YtklcjimmbkpbdaaGreatDoor
