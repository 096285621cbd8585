/-
  Of the proofs of layer 7 (values of JSON): the parts VfP VM VW. No conditions.
-/
import Derived.Lib.Hide
import Derived.Maps.RangeWalk
import Derived.Sort.KeysCollected
import Derived.Test.YtchgelfomnbpaaaDoorChecked
import Derived.WalkKit
import Derived.WalkSmall
import Derived.BigCall
import Derived.Lib.Strings
import Derived.OwnWalk
import Derived.IntWalk
import Derived.Maps.AppendAt
import Derived.Maps.Range
import Derived.Deep.QuietTactic
import Derived.BigQuiet
import Derived.Deep.MidRow
import Derived.Deep.RegionHeld3
import Derived.StillTailTactics
namespace Go.Proofs.YtchgelfomnbpaaaDoor

abbrev Bs := List UInt8
/-! ### Paths -/
def inPartB (c : UInt8) : Bool := decide (97 ≤ c.toNat ∧ c.toNat ≤ 122 ∨ 65 ≤ c.toNat ∧ c.toNat ≤ 90 ∨ 48 ≤ c.toNat ∧ c.toNat ≤ 57 ∨ c.toNat = 45 ∨ c.toNat = 95 ∨ c.toNat = 46)
def isPartL (s : Bs) : Bool := decide (1 ≤ s.length) && decide (s.length ≤ 80) && !(s == [46]) && !(s == [46, 46]) && s.all inPartB
def cutS : Bs → Option (Bs × Bs)
  | [] => none
  | c :: r => if c = 47 then some ([], r) else (cutS r).map fun p => (c :: p.1, p.2)
def rightL (p : Bs) : Bool := match cutS p with | some (a, b) => isPartL a && isPartL b | none => isPartL p
def dirL (p : Bs) : Bs := match cutS p with | some (a, _) => a | none => []
theorem cutS_yes : ∀ (a b : Bs), 47 ∉ a → cutS (a ++ 47 :: b) = some (a, b)
  | [], b, _ => rfl
  | c :: a, b, h => by
    have h1 : c ≠ 47 := fun e => h (by simp [e])
    have h2 : 47 ∉ a := fun e => h (by simp [e])
    simp [cutS, h1, cutS_yes a b h2]
theorem cutS_no : ∀ (a : Bs), 47 ∉ a → cutS a = none
  | [], _ => rfl
  | c :: a, h => by
    have h1 : c ≠ 47 := fun e => h (by simp [e])
    have h2 : 47 ∉ a := fun e => h (by simp [e])
    simp [cutS, h1, cutS_no a h2]
theorem isPart_len {s : Bs} (h : isPartL s = true) : 1 ≤ s.length ∧ s.length ≤ 80 := by
  simp [isPartL] at h; exact ⟨h.1.1.1.1, h.1.1.1.2⟩
theorem cutS_len : ∀ {p a b : Bs}, cutS p = some (a, b) → p.length = a.length + 1 + b.length
  | [], _, _, h => by simp [cutS] at h
  | c :: r, a, b, h => by
    unfold cutS at h
    split at h
    · simp at h; obtain ⟨rfl, rfl⟩ := h; simp; omega
    · cases hr : cutS r with
      | none => simp [hr] at h
      | some q =>
        simp [hr] at h
        obtain ⟨rfl, rfl⟩ := h
        have := cutS_len hr
        simp [this]; omega
theorem right_len {p : Bs} (h : rightL p = true) : p.length ≤ 161 := by
  unfold rightL at h
  cases hc : cutS p with
  | none => rw [hc] at h; have := isPart_len h; omega
  | some q =>
    obtain ⟨a, b⟩ := q
    rw [hc] at h
    simp at h
    have h1 := isPart_len h.1
    have h2 := isPart_len h.2
    have := cutS_len hc
    omega
/-! ### Lists of pairs, as maps -/
section
variable {κ β : Type} [DecidableEq κ]
def look (l : List (κ × β)) (p : κ) : Option β := (l.find? fun x => decide (x.1 = p)).map (·.2)
def dropN (l : List (κ × β)) (p : κ) : List (κ × β) := l.filter fun x => decide (x.1 ≠ p)
def putN (l : List (κ × β)) (p : κ) (k : β) : List (κ × β) := dropN l p ++ [(p, k)]
end
abbrev Nm := List (Bs × Nat)
/-! ### The program's disk -/
structure QB where
  now : Bs
  kept : Nat
structure QC where
  frm : Bs
  to : Bs
  body : Option Nat
structure Q where
  room : Int
  bodies : List QB
  names : Nm
  kept : Nm
  changes : List (Bs × List QC)
  loose : List (Nat × Unit)
  told : Bool
  ahead : Int
  once : Bool
def qNew (room : Int) : Q := ⟨max room 0, [], [], [], [], [], false, 0, false⟩
def qbody (q : Q) (k : Nat) : QB := q.bodies.getD k ⟨[], 0⟩
def sizeO (q : Q) (o : Option Nat) : Nat := match o with | none => 0 | some k => (qbody q k).now.length
def usedQ (q : Q) : Nat := (q.names.map fun x => (qbody q x.2).now.length).sum
/-- A call is counted: does it fail? -/
def strikeQ (q : Q) : Bool × Q :=
  if q.told then if 0 < q.ahead then (false, { q with ahead := q.ahead - 1 }) else (true, { q with told := !q.once }) else (false, q)
def beginQ (q : Q) (right : Bool) : Int × Q :=
  if right then match strikeQ q with | (true, q') => (62, q') | (false, q') => (0, q') else (2, q)
def extendQ (q : Q) (k : Nat) (b : Bs) : Q :=
  if b = [] then q else { q with bodies := q.bodies.set k ⟨(qbody q k).now ++ b, (qbody q k).kept⟩, loose := putN q.loose k () }
def newBodyQ (q : Q) (b : Bs) : Q := extendQ { q with bodies := q.bodies ++ [⟨[], 0⟩] } q.bodies.length b
def applyN (c : QC) (l : Nm) : Nm :=
  match c.body with | some k => putN (dropN l c.frm) c.to k | none => dropN l c.frm
def changeQ (q : Q) (frm to : Bs) (b : Option Nat) : Q :=
  { q with names := applyN ⟨frm, to, b⟩ q.names, changes := putN q.changes (dirL frm) ((look q.changes (dirL frm)).getD [] ++ [⟨frm, to, b⟩]) }
def hasRoomQ (q : Q) (more : Int) : Bool := decide (more ≤ q.room - usedQ q)
def writeQ (q : Q) (p b : Bs) : Int × Q :=
  match beginQ q (rightL p) with
  | (e, q) => if e = 0 then
      if hasRoomQ q ((b.length : Int) - sizeO q (look q.names p)) then (0, changeQ (newBodyQ q b) p p (some q.bodies.length)) else (61, q)
    else (e, q)
def appendQ (q : Q) (p b : Bs) : Int × Q :=
  match beginQ q (rightL p) with
  | (e, q) => if e = 0 then
      match look q.names p with
      | none => (60, q)
      | some k => if hasRoomQ q b.length then (0, extendQ q k b) else (61, q)
    else (e, q)
def readQ (q : Q) (p : Bs) : Option Bs := (look q.names p).map fun k => (qbody q k).now
def renameQ (q : Q) (frm to : Bs) : Int × Q :=
  match beginQ q (rightL frm && rightL to && dirL frm == dirL to) with
  | (e, q) => if e = 0 then
      match look q.names frm with
      | none => (60, q)
      | some k => (0, if frm = to then q else changeQ q frm to (some k))
    else (e, q)
def removeQ (q : Q) (p : Bs) : Int × Q :=
  match beginQ q (rightL p) with
  | (e, q) => if e = 0 then
      match look q.names p with
      | none => (60, q)
      | some _ => (0, changeQ q p p none)
    else (e, q)
def syncQ (q : Q) (p : Bs) : Int × Q :=
  match beginQ q (rightL p) with
  | (e, q) => if e = 0 then
      match look q.names p with
      | none => (60, q)
      | some k => (0, { q with bodies := q.bodies.set k ⟨(qbody q k).now, (qbody q k).now.length⟩, loose := dropN q.loose k })
    else (e, q)
def goneQ (q : Q) (o : Option Nat) : Q := match o with | none => q | some g => { q with bodies := q.bodies.set g ⟨[], 0⟩ }
def keep1Q (q : Q) (c : QC) : Q := goneQ { q with kept := applyN c q.kept } (look q.kept c.to)
def keepQ (q : Q) (cs : List QC) : Q := cs.foldl keep1Q q
def syncDirQ (q : Q) (d : Bs) : Int × Q :=
  match beginQ q (d == [] || isPartL d) with
  | (e, q) => if e = 0 then
      (0, { keepQ q ((look q.changes d).getD []) with changes := dropN (keepQ q ((look q.changes d).getD [])).changes d })
    else (e, q)
def leB2 (x y : Bs) : Bool := decide (x ≤ y)
def listQ (q : Q) (d : Bs) : List Bs := ((q.names.map (·.1)).filter fun p => dirL p == d).mergeSort leB2
def failQ (q : Q) (calls : Int) (once : Bool) : Q := { q with told := true, ahead := calls, once := once }
/-- The next number's rest. -/
def nextQ (ks : List Int) (most : Nat) : Nat × List Int := match ks with | [] => (0, []) | n :: r => ((n % ((most : Int) + 1)).toNat, r)
def stay1Q (s : Q × List Int) (k : Nat) : Q × List Int :=
  let b := qbody s.1 k
  let n := nextQ s.2 (b.now.length - b.kept)
  ({ s.1 with bodies := s.1.bodies.set k ⟨b.now.take (b.kept + n.1), b.kept + n.1⟩ }, n.2)
def keepDir1Q (s : Q × List Int) (d : Bs) : Q × List Int :=
  let cs := (look s.1.changes d).getD []
  let n := nextQ s.2 cs.length
  (keepQ s.1 (cs.take n.1), n.2)
def crashA (q : Q) (ks : List Int) : Q × List Int := ((q.loose.map (·.1)).mergeSort (fun x y => decide (x ≤ y))).foldl stay1Q (q, ks)
def crashB (s : Q × List Int) : Q × List Int := ((s.1.changes.map (·.1)).mergeSort leB2).foldl keepDir1Q ({ s.1 with loose := [] }, s.2)
def crashQ (q : Q) (ks : List Int) : Q :=
  let s := crashB (crashA q ks)
  { s.1 with changes := [], names := s.1.kept, told := false, ahead := 0, once := false }
/-! ### Bounds -/
structure Small (N : Nat) (q : Q) : Prop where
  nb : q.bodies.length ≤ N
  nn : q.names.length ≤ N
  nk : q.kept.length + (q.changes.map fun x => x.2.length).sum ≤ N
  nc : q.changes.length ≤ N
  nl : q.loose.length ≤ N
  now : ∀ b ∈ q.bodies, b.now.length ≤ N ∧ b.kept ≤ b.now.length
  kn : ∀ x ∈ q.names, x.1.length ≤ 161 ∧ x.2 < q.bodies.length
  kk : ∀ x ∈ q.kept, x.1.length ≤ 161 ∧ x.2 < q.bodies.length
  kc : ∀ x ∈ q.changes, x.1.length ≤ 161 ∧ ∀ c ∈ x.2, c.frm.length ≤ 161 ∧ c.to.length ≤ 161 ∧ ∀ k, c.body = some k → k < q.bodies.length
  kl : ∀ x ∈ q.loose, x.1 < q.bodies.length
  r0 : 0 ≤ q.room
  r1 : q.room ≤ 9223372036854775807
  a0 : -9223372036854775808 ≤ q.ahead
  a1 : q.ahead ≤ 9223372036854775807
  dn : (q.names.map (·.1)).Nodup
  dk : (q.kept.map (·.1)).Nodup
  dc : (q.changes.map (·.1)).Nodup
  dl : (q.loose.map (·.1)).Nodup
section
variable {κ β : Type} [DecidableEq κ]
theorem look_mem {l : List (κ × β)} {p : κ} {k : β} (h : look l p = some k) : (p, k) ∈ l := by
  unfold look at h
  cases hf : l.find? (fun x => decide (x.1 = p)) with
  | none => rw [hf] at h; cases h
  | some x =>
    rw [hf] at h
    have h1 := List.find?_some hf
    have h2 := List.mem_of_find?_eq_some hf
    simp at h h1
    rw [← h, ← h1]
    exact h2
theorem look_of_mem : ∀ {l : List (κ × β)} {x : κ × β}, (l.map (·.1)).Nodup → x ∈ l → look l x.1 = some x.2
  | y :: r, x, hd, h => by
    rw [List.map_cons, List.nodup_cons] at hd
    rcases List.mem_cons.1 h with rfl | h
    · simp [look]
    · have hne : y.1 ≠ x.1 := fun e => hd.1 (e ▸ List.mem_map_of_mem h)
      have := look_of_mem hd.2 h
      unfold look at this ⊢
      rw [List.find?_cons_of_neg (by simpa using hne)]
      exact this
theorem look_none {l : List (κ × β)} {p : κ} (h : look l p = none) : p ∉ l.map (·.1) := by
  intro hm
  obtain ⟨x, hx, rfl⟩ := List.mem_map.1 hm
  unfold look at h
  rw [Option.map_eq_none_iff, List.find?_eq_none] at h
  exact h x hx (by simp)
end
theorem Small.name {N : Nat} {q : Q} (h : Small N q) {p : Bs} {k : Nat} (hk : look q.names p = some k) : k < q.bodies.length := (h.kn _ (look_mem hk)).2
theorem Small.body {N : Nat} {q : Q} (h : Small N q) (k : Nat) : (qbody q k).now.length ≤ N ∧ (qbody q k).kept ≤ (qbody q k).now.length := by
  unfold qbody
  by_cases hk : k < q.bodies.length
  · rw [List.getD_eq_getElem?_getD, List.getElem?_eq_getElem hk]
    exact h.now _ (List.getElem_mem hk)
  · rw [List.getD_eq_getElem?_getD, List.getElem?_eq_none (by omega)]
    simp
theorem used_sum {q : Q} (h : (q.names.map (·.1)).Nodup) : ((q.names.map (·.1)).map fun p => sizeO q (look q.names p)).sum = usedQ q := by
  unfold usedQ
  rw [List.map_map]
  congr 1
  refine List.map_congr_left (fun x hx => ?_)
  show sizeO q (look q.names x.1) = _
  rw [look_of_mem h hx]; rfl
theorem sum_le {α : Type} (f : α → Nat) (N : Nat) : ∀ l : List α, (∀ x ∈ l, f x ≤ N) → (l.map f).sum ≤ l.length * N
  | [], _ => by simp
  | x :: r, h => by
    have h1 := h x (by simp)
    have h2 := sum_le f N r (fun y hy => h y (by simp [hy]))
    simp only [List.map_cons, List.sum_cons, List.length_cons, Nat.add_mul, Nat.one_mul]
    omega
theorem Small.used {N : Nat} {q : Q} (h : Small N q) : usedQ q ≤ N * N := by
  have := sum_le (fun x : Bs × Nat => (qbody q x.2).now.length) N q.names (fun x _ => (h.body x.2).1)
  exact Nat.le_trans this (Nat.mul_le_mul_right N h.nn)
theorem Small.size {N : Nat} {q : Q} (h : Small N q) (o : Option Nat) : sizeO q o ≤ N := by
  cases o with
  | none => exact Nat.zero_le _
  | some k => exact (h.body k).1
/-! ### Changes that are kept -/
theorem mem_applyN {c : QC} {l : Nm} {x : Bs × Nat} (h : x ∈ applyN c l) : x ∈ l ∨ (x.1 = c.to ∧ c.body = some x.2) := by
  unfold applyN at h
  cases hb : c.body with
  | none => rw [hb] at h; exact .inl (List.mem_filter.1 h).1
  | some k =>
    rw [hb] at h
    unfold putN at h
    rcases List.mem_append.1 h with h | h
    · exact .inl (List.mem_filter.1 (List.mem_filter.1 h).1).1
    · simp at h; rw [h]; exact .inr ⟨rfl, rfl⟩
theorem len_applyN (c : QC) (l : Nm) : (applyN c l).length ≤ l.length + 1 := by
  unfold applyN
  have h1 : (dropN l c.frm).length ≤ l.length := List.length_filter_le _ _
  cases c.body with
  | none => show (dropN l c.frm).length ≤ _; omega
  | some k =>
    simp only [putN, List.length_append, List.length_singleton]
    have h2 : (dropN (dropN l c.frm) c.to).length ≤ (dropN l c.frm).length := List.length_filter_le _ _
    omega
theorem gone_len (q : Q) (o : Option Nat) : (goneQ q o).bodies.length = q.bodies.length := by cases o <;> simp [goneQ]
theorem gone_kept (q : Q) (o : Option Nat) : (goneQ q o).kept = q.kept := by cases o <;> rfl
theorem keep1_kept (q : Q) (c : QC) : (keep1Q q c).kept = applyN c q.kept := gone_kept _ _
theorem keep1_len (q : Q) (c : QC) : (keep1Q q c).bodies.length = q.bodies.length := gone_len _ _
theorem keepQ_snoc (q : Q) (cs : List QC) (c : QC) : keepQ q (cs ++ [c]) = keep1Q (keepQ q cs) c := by simp [keepQ, List.foldl_append]
/-- What holds while changes are kept. -/
structure Keeps (M : Nat) (q : Q) : Prop where
  len : q.kept.length ≤ M
  ok : ∀ x ∈ q.kept, x.1.length ≤ 161 ∧ x.2 < q.bodies.length
theorem Keeps.step {M : Nat} {q : Q} (h : Keeps M q) (c : QC) (ht : c.to.length ≤ 161) (hb : ∀ k, c.body = some k → k < q.bodies.length) : Keeps (M + 1) (keep1Q q c) := by
  refine ⟨?_, ?_⟩
  · rw [keep1_kept]; have := len_applyN c q.kept; have := h.len; omega
  · intro x hx
    rw [keep1_kept] at hx
    rw [keep1_len]
    rcases mem_applyN hx with h1 | ⟨h1, h2⟩
    · exact h.ok x h1
    · exact ⟨by rw [h1]; exact ht, hb _ h2⟩
theorem keepQ_len (q : Q) : ∀ cs : List QC, (keepQ q cs).bodies.length = q.bodies.length := by
  intro cs
  unfold keepQ
  induction cs generalizing q with
  | nil => rfl
  | cons c r ih => rw [List.foldl_cons, ih, keep1_len]
theorem Keeps.take {M : Nat} {q : Q} (h : Keeps M q) (cs : List QC) (hc : ∀ c ∈ cs, c.to.length ≤ 161 ∧ ∀ k, c.body = some k → k < q.bodies.length) : ∀ k, k ≤ cs.length → Keeps (M + k) (keepQ q (cs.take k)) := by
  intro k
  induction k with
  | zero => intro _; simpa [keepQ] using h
  | succ k ih =>
    intro hk
    have h1 := ih (by omega)
    rw [List.take_succ_eq_append_getElem (by omega), keepQ_snoc]
    have hm := hc cs[k] (List.getElem_mem (by omega))
    have := h1.step cs[k] hm.1 (fun j hj => by rw [keepQ_len]; exact hm.2 j hj)
    exact this
theorem Small.keeps {N : Nat} {q : Q} (h : Small N q) : Keeps q.kept.length q := ⟨Nat.le_refl _, h.kk⟩
end Go.Proofs.YtchgelfomnbpaaaDoor
namespace Go.Proofs.YtchgelfomnbpaaaDoor
open Go.RowKit
open Go.Maps
open Go.WideElems (Fit rd rg pl rd_val elemAt)

/-- Each element is told as it stands. -/
def hR (v : Value) : Option (DataW Value × List MemPlace) := some (.held v, [])
abbrev Ents := List (Lit × Value)
def datE (E : Ents) : List (Lit × DataW Value) := E.map fun p => (p.1, DataW.held p.2)
/-- Block b is a map that holds just these entries. -/
def MapIs (P : Program) (k : TypeId) (b : Nat) (E : Ents) (w : World) : Prop :=
  E.Pairwise (fun p q => p.1 ≠ q.1) ∧ ∃ es, w.ownsMap P k hR b E.length (.map es) ∧ es.Perm (datE E)
def lookE (E : Ents) (kl : Lit) : Option Value := (E.find? fun p => p.1.sameKey kl).map (·.2)
def dropE (E : Ents) (kl : Lit) : Ents := E.filter fun p => !p.1.sameKey kl
def putE (E : Ents) (kl : Lit) (v : Value) : Ents := dropE E kl ++ [(kl, v)]

section
variable {P : Program} {k : TypeId} {b : Nat} {E : Ents} {w w' : World}
theorem MapIs.lt (h : MapIs P k b E w) : b < w.heap.size := by obtain ⟨_, _, h, _⟩ := h; exact h.lt
theorem MapIs.kept {row : Option Nat} (h : MapIs P k b E w) (hg : w.grownBy w' row) (hne : some b ≠ row) : MapIs P k b E w' := by
  obtain ⟨h1, es, h2, h3⟩ := h; exact ⟨h1, es, h2.kept hg hne, h3⟩
theorem MapIs.perm {E' : Ents} (h : MapIs P k b E w) (hp : E.Perm E') : MapIs P k b E' w := by
  obtain ⟨h1, es, h2, h3⟩ := h
  exact ⟨(hp.pairwise_iff (fun {_ _} hne => Ne.symm hne)).1 h1, es, hp.length_eq ▸ h2, h3.trans (hp.map _)⟩
theorem MapIs.made (P : Program) (k : TypeId) (w : World) : MapIs P k w.heap.size [] (w.alloc (.map #[] 0)) :=
  ⟨List.Pairwise.nil, [], World.ownsMap_made w P k hR, List.Perm.refl _⟩
theorem find_perm {α : Type} {f : α → Bool} : ∀ {l l' : List α}, l.Perm l' → l.Pairwise (fun p q => f p = true → f q = true → False) → l.find? f = l'.find? f := by
  intro l l' h
  induction h with
  | nil => intro _; rfl
  | cons x _ ih => intro hp; rw [List.find?_cons, List.find?_cons, ih (List.pairwise_cons.1 hp).2]
  | swap x y l =>
    intro hp
    have := (List.pairwise_cons.1 hp).1 x (by simp)
    rw [List.find?_cons, List.find?_cons, List.find?_cons, List.find?_cons]
    cases hx : f x <;> cases hy : f y <;> simp_all
  | trans h1 _ ih1 ih2 =>
    intro hp
    rw [ih1 hp, ih2 ((h1.pairwise_iff (fun {a b} (h : f a = true → f b = true → False) => fun h1 h2 => h h2 h1)).1 hp)]
theorem at_of_perm {es : List (Lit × DataW Value)} {kl : Lit} (hp : es.Perm (datE E)) (hd : E.Pairwise (fun p q => p.1 ≠ q.1)) (z : Value) :
    (DataW.map es).atKey kl (.held z) = .held ((lookE E kl).getD z) := by
  have hpw : (datE E).Pairwise (fun p q => p.1.sameKey kl = true → q.1.sameKey kl = true → False) := by
    unfold datE
    rw [List.pairwise_map]
    exact hd.imp (fun {p q} hne h1 h2 => hne ((WideAt.sameKey_eq h1).trans (WideAt.sameKey_eq h2).symm))
  simp only [DataW.atKey]
  rw [← find_perm hp.symm hpw]
  unfold datE lookE
  rw [List.find?_map]
  have e1 : ((fun p : Lit × DataW Value => p.1.sameKey kl) ∘ fun p : Lit × Value => (p.1, DataW.held p.2)) = fun p : Lit × Value => p.1.sameKey kl := rfl
  rw [e1]
  cases E.find? fun p => p.1.sameKey kl <;> rfl
/-- 'm[k]'. -/
theorem MapIs.look {t e : TypeId} (h : MapIs P k b E w) (K : Keyed P k) (ht : P.underlying t = some (.map k e)) {z : Value} (hz : (zeroValue e).run P w = .ok z w) {key : Value} {kl : Lit} (hkey : keyOf P k key = some kl) :
    (Instr.lookup t (.map (some b)) key false).run P w = .ok ((lookE E kl).getD z) w := by
  obtain ⟨h1, es, h2, h3⟩ := h
  obtain ⟨v, ps, hrun, hv⟩ := h2.lookup K ht hz (zd := .held z) (zp := []) rfl hkey
  rw [hrun]
  have hv' := congrArg (fun o => o.map Prod.fst) hv
  simp only [hR, Option.map_some, at_of_perm h3 h1 z] at hv'
  simp at hv'
  rw [hv']
theorem filter_perm {es : List (Lit × DataW Value)} {kl : Lit} (hp : es.Perm (datE E)) : (es.filter fun p => !p.1.sameKey kl).Perm (datE (dropE E kl)) := by
  refine (hp.filter _).trans ?_
  unfold datE dropE
  rw [List.filter_map]
  have e1 : ((fun p : Lit × DataW Value => !p.1.sameKey kl) ∘ fun p : Lit × Value => (p.1, DataW.held p.2)) = fun p : Lit × Value => !p.1.sameKey kl := rfl
  rw [e1]
theorem dropE_pw {kl : Lit} (hd : E.Pairwise (fun p q => p.1 ≠ q.1)) : (dropE E kl).Pairwise (fun p q => p.1 ≠ q.1) := hd.filter _
theorem putE_pw {kl : Lit} {v : Value} (hk : WideAt.IsKeyLit kl) (hd : E.Pairwise (fun p q => p.1 ≠ q.1)) : (putE E kl v).Pairwise (fun p q => p.1 ≠ q.1) := by
  unfold putE
  refine List.pairwise_append.2 ⟨hd.filter _, by simp, fun a ha b hb => ?_⟩
  have h1 := (List.mem_filter.1 ha).2
  simp at hb h1
  rw [hb]
  intro e
  rw [e, WideAt.sameKey_self hk] at h1
  cases h1
theorem size_of_owns {n : Nat} {es : List (Lit × DataW Value)} (h : w.ownsMap P k hR b n (.map es)) : w.ownsMap P k hR b es.length (.map es) := by
  obtain ⟨ms, clock, hb, F, hs, hD⟩ := h
  refine ⟨ms, clock, hb, F, ?_, hD⟩
  injection hD with hD
  rw [hD, length_sorted]; simp
theorem length_datE : (datE E).length = E.length := by simp [datE]
/-- 'm[k] = v'. -/
theorem MapIs.store {t e : TypeId} (h : MapIs P k b E w) (K : Keyed P k) (ht : P.underlying t = some (.map k e)) (hn : E.length < maxLen) {key val : Value} {kl : Lit} (hkey : keyOf P k key = some kl) :
    ∃ w', (Instr.mapUpdate t (.map (some b)) key val).run P w = .ok () w' ∧ MapIs P k b (putE E kl val) w' ∧ w.grownBy w' (some b) := by
  obtain ⟨h1, es, h2, h3⟩ := h
  obtain ⟨w', hrun, ho, hg⟩ := h2.update K ht hn hkey (val := val) (d := .held val) (ps := []) rfl
  refine ⟨w', hrun, ⟨putE_pw (K.key hkey) h1, DataW.insert (kl, .held val) (es.filter fun p => !p.1.sameKey kl), ?_, ?_⟩, hg⟩
  · have := size_of_owns (es := DataW.insert (kl, .held val) (es.filter fun p => !p.1.sameKey kl)) ho
    have hl : (DataW.insert (kl, DataW.held val) (es.filter fun p => !p.1.sameKey kl)).length = (putE E kl val).length := by
      rw [length_insert, (filter_perm h3).length_eq, length_datE]; simp [putE]
    rw [← hl]; exact this
  · refine (WideShapes.insert_perm _ _).trans ?_
    have h4 := filter_perm (kl := kl) h3
    refine (h4.cons (kl, DataW.held val)).trans ?_
    unfold putE
    show List.Perm _ (datE (dropE E kl ++ [(kl, val)]))
    unfold datE
    rw [List.map_append]
    exact (List.perm_append_singleton _ _).symm
/-- 'delete(m, k)'. -/
theorem MapIs.drop {t e : TypeId} (h : MapIs P k b E w) (K : Keyed P k) (ht : P.underlying t = some (.map k e)) {key : Value} {kl : Lit} (hkey : keyOf P k key = some kl) (ty : TypeId) :
    ∃ w', (Builtin.delete_ #[t, k] ty #[.map (some b), key]).run P w = .ok (.tuple #[]) w' ∧ MapIs P k b (dropE E kl) w' ∧ w.grownBy w' (some b) := by
  obtain ⟨h1, es, h2, h3⟩ := h
  obtain ⟨w', hrun, ho, hg⟩ := h2.drop K ht hkey ty
  refine ⟨w', hrun, ⟨dropE_pw h1, es.filter fun p => !p.1.sameKey kl, ?_, filter_perm h3⟩, hg.grown⟩
  have := size_of_owns (es := es.filter fun p => !p.1.sameKey kl) ho
  rw [(filter_perm h3).length_eq, length_datE] at this
  exact this
/-- 'clear(m)'. -/
theorem MapIs.clear {t e : TypeId} (h : MapIs P k b E w) (ht : P.underlying t = some (.map k e)) (ty : TypeId) :
    ∃ w', (Builtin.clear_ #[t] ty #[.map (some b)]).run P w = .ok (.tuple #[]) w' ∧ MapIs P k b [] w' ∧ w.grownBy w' (some b) := by
  obtain ⟨h1, es, h2, h3⟩ := h
  obtain ⟨ms, clock, hb, F, hs, hD⟩ := h2
  refine ⟨ChangeMaps.setBlock w b (.map #[] clock), ?_, ⟨List.Pairwise.nil, [], ⟨#[], clock, ChangeMaps.heap_setBlock_same hb _, ⟨by simp, MapKept.stamped_empty _, by simp⟩, by simp, rfl⟩, List.Perm.refl _⟩, World.mapTurned.grown ⟨ms, clock, #[], clock, hb, rfl⟩⟩
  simp [Builtin.clear_, run_underlying ht, MapKept.run_getObj_map hb, MapKept.run_setObj_map _ hb, Result.andThen, ChangeMaps.setBlock]
theorem MapIs.keysPerm (h : MapIs P k b E w) : ∃ D, w.ownsMap P k hR b E.length D ∧ (strKeys D).Perm (E.map fun p => strOf p.1) ∧ Maps.size D = E.length ∧ Maps.IsMap D := by
  obtain ⟨h1, es, h2, h3⟩ := h
  refine ⟨.map es, h2, ?_, ?_, ⟨es, rfl⟩⟩
  · have := h3.map fun p => strOf p.1
    unfold datE at this
    rw [List.map_map] at this
    exact this
  · rw [Maps.size_eq, h3.length_eq, length_datE]
end
/-! ### at the operation, for the walk -/
section
variable {P : Program} (w : World) {ops : Array Oper} {rest : List Oper} {o : Oper} {a : Act} {Q : Exit → Act → World → Prop}
theorem wpList_lookup_map (hg : o.guard = none) (m x : Operand) (t : TypeId) (hop : o.op = Op.lookup t m x false)
    (k e : TypeId) (K : Keyed P k) (ht : P.underlying t = some (.map k e)) (z : Value) (hz : (zeroValue e).run P w = .ok z w) (b : Nat) (E : Ents) (hm : a.eval m = .map (some b)) (H : MapIs P k b E w)
    (key : Value) (kl : Lit) (hx : a.eval x = key) (hkey : keyOf P k key = some kl) (v : Value) (hv : (lookE E kl).getD z = v) (hK : wpList P ops Q rest (a.put o.dst v) w) : wpList P ops Q (o :: rest) a w := by
  refine wpList_plain hg fun K' hK' => ?_
  have hrun := H.look K ht hz hkey
  rw [hv] at hrun
  unfold Oper.wp
  simp [execOp, hop, hm, hx, hrun, Result.andThen]
  exact hK' _ _ hK
theorem wpList_store_map (hg : o.guard = none) (m x v : Operand) (t : TypeId) (hop : o.op = Op.mapUpdate t m x v)
    (k e : TypeId) (K : Keyed P k) (ht : P.underlying t = some (.map k e)) (b : Nat) (E : Ents) (hm : a.eval m = .map (some b)) (H : MapIs P k b E w) (hn : E.length < maxLen)
    (key val : Value) (kl : Lit) (hx : a.eval x = key) (hv : a.eval v = val) (hkey : keyOf P k key = some kl)
    (hK : ∀ w', MapIs P k b (putE E kl val) w' → w.grownBy w' (some b) → wpList P ops Q rest (a.put o.dst undef) w') : wpList P ops Q (o :: rest) a w := by
  refine wpList_plain hg fun K' hK' => ?_
  obtain ⟨w', hrun, r1, r2⟩ := H.store K ht hn hkey (val := val)
  unfold Oper.wp
  simp [execOp, hop, hm, hx, hv, hrun, Result.andThen]
  exact hK' _ _ (hK w' r1 r2)
theorem wpList_delete_map (hg : o.guard = none) (m x : Operand) (t k : TypeId) (hop : o.op = Op.call { callee := Callee.builtin Builtin.delete, args := #[m, x], argTypes := #[t, k] })
    (e : TypeId) (K : Keyed P k) (ht : P.underlying t = some (.map k e)) (b : Nat) (E : Ents) (hm : a.eval m = .map (some b)) (H : MapIs P k b E w)
    (key : Value) (kl : Lit) (hx : a.eval x = key) (hkey : keyOf P k key = some kl)
    (hK : ∀ w', MapIs P k b (dropE E kl) w' → w.grownBy w' (some b) → wpList P ops Q rest (a.put o.dst (.tuple #[])) w') : wpList P ops Q (o :: rest) a w := by
  refine wpList_plain hg fun K' hK' => ?_
  obtain ⟨w', hrun, r1, r2⟩ := H.drop K ht hkey o.type
  unfold Oper.wp
  simp [execOp, hop, resolve, invoke, builtin, hm, hx, hrun, Result.andThen]
  exact hK' _ _ (hK w' r1 r2)
theorem wpList_clear_map (hg : o.guard = none) (m : Operand) (t : TypeId) (hop : o.op = Op.call { callee := Callee.builtin Builtin.clear, args := #[m], argTypes := #[t] })
    (k e : TypeId) (ht : P.underlying t = some (.map k e)) (b : Nat) (E : Ents) (hm : a.eval m = .map (some b)) (H : MapIs P k b E w)
    (hK : ∀ w', MapIs P k b [] w' → w.grownBy w' (some b) → wpList P ops Q rest (a.put o.dst (.tuple #[])) w') : wpList P ops Q (o :: rest) a w := by
  refine wpList_plain hg fun K' hK' => ?_
  obtain ⟨w', hrun, r1, r2⟩ := H.clear ht o.type
  unfold Oper.wp
  simp [execOp, hop, resolve, invoke, builtin, hm, hrun, Result.andThen]
  exact hK' _ _ (hK w' r1 r2)
end
end Go.Proofs.YtchgelfomnbpaaaDoor
namespace Go.Proofs.YtchgelfomnbpaaaDoor
open Go.RowKit
open Go.Lib

theorem ret_i6 {k : IntKind} {a b : Int} (h : a = b) : Ending.returned (.int k a) = .returned (.int k b) := by rw [h]
theorem ret_b6 {a b : Bool} (h : a = b) : Ending.returned (.bool a) = .returned (.bool b) := by rw [h]
theorem size_l6 (s : ByteArray) : s.size = s.data.toList.length := by simp
theorem take_sn6 (s : ByteArray) (k : Nat) (h : k < s.size) : s.data.toList.take (k + 1) = s.data.toList.take k ++ [s[k]] := by
  rw [List.take_succ_eq_append_getElem (by simpa using h)]; rfl
theorem eqS (s : ByteArray) (l : List UInt8) : (s.toList == l) = (s.data.toList == l) := by rw [Lib.toList_data]
/-- A string of these bytes. -/
def bs (l : Bs) : ByteArray := ⟨l.toArray⟩
theorem bs_list (l : Bs) : (bs l).data.toList = l := by simp [bs]
theorem bs_size (l : Bs) : (bs l).size = l.length := by simp [bs, ByteArray.size]
theorem bs_of (s : ByteArray) : bs s.data.toList = s := by simp [bs]

/-- A block that lies there. -/
def Blk (b : Nat) (o : Obj) (w : World) : Prop := w.heap[b]? = some o
theorem Blk.lt {b : Nat} {o : Obj} {w : World} (h : Blk b o w) : b < w.heap.size := (Array.getElem?_eq_some_iff.1 h).1
theorem Blk.new (o : Obj) (w : World) : Blk w.heap.size o (w.alloc o) := by
  unfold Blk World.alloc
  simp
theorem Blk.grown {b : Nat} {o : Obj} {w w' : World} {row : Option Nat} (h : Blk b o w) (g : w.grownBy w' row) (hne : some b ≠ row) : Blk b o w' :=
  (g.block b h.lt hne).trans h
theorem Blk.set {b : Nat} {c : Array Value} {t : TypeId} {f : Nat × Nat} {w : World} (h : Blk b (.cells c t f) w) (j : Nat) (v : Value) : Blk b (.cells (c.setIfInBounds j v) t f) (w.setCell ⟨b, j, none⟩ v) := by
  unfold Blk World.setCell at *
  simp only [Array.getElem?_modify, if_true, h]
  rfl
theorem Blk.cell {b : Nat} {c : Array Value} {t : TypeId} {f : Nat × Nat} {w : World} (h : Blk b (.cells c t f) w) (j : Nat) : w.cell? ⟨b, j, none⟩ = c[j]? := by
  unfold Blk at h
  simp [World.cell?, h]
theorem Blk.free {b : Nat} {c : Array Value} {t : TypeId} {w : World} (h : Blk b (.cells c t (0, 0)) w) (j : Nat) : w.frozen? ⟨b, j, none⟩ = false := by
  unfold Blk at h
  simp [World.frozen?, h]
theorem grown_set (w : World) (b j : Nat) (v : Value) : w.grownBy (w.setCell ⟨b, j, none⟩ v) (some b) := by
  refine ⟨rfl, rfl, rfl, by simp, fun k hk hne => ?_⟩
  have : k ≠ b := fun e => hne (by rw [e])
  unfold World.setCell
  simp only [Array.getElem?_modify, if_neg this.symm]
theorem grown_alloc (w : World) (o : Obj) (row : Option Nat) : w.grownBy (w.alloc o) row := by
  have h := (Below.refl w.heap.size w).alloc (Nat.le_refl _) o
  exact ⟨h.os, h.tape, h.output, h.size, fun k hk _ => h.block k hk⟩
theorem grown_below {w w' : World} (h : Below w.heap.size w w') (row : Option Nat) : w.grownBy w' row := ⟨h.os, h.tape, h.output, h.size, fun k hk _ => h.block k hk⟩

def Kept (w0 w : World) : Prop := Below w0.heap.size w0 w
theorem Kept.go {w0 w w' : World} (h : Kept w0 w) (hb : Below w.heap.size w w') : Kept w0 w' := Below.trans h (hb.mono (Below.size h))
theorem Kept.drew {w0 w : World} (h : Kept w0 w) : Kept w0 w.drew := below_drewN h 1
/-- All is as it was but for the blocks of which F holds, and new ones. -/
structure Off (F : Nat → Prop) (w w' : World) : Prop where
  os : w'.os = w.os
  tape : w'.tape = w.tape
  output : w'.output = w.output
  size : w.heap.size ≤ w'.heap.size
  block : ∀ k, k < w.heap.size → ¬ F k → w'.heap[k]? = w.heap[k]?
theorem Off.refl (F : Nat → Prop) (w : World) : Off F w w := ⟨rfl, rfl, rfl, Nat.le_refl _, fun _ _ _ => rfl⟩
theorem Off.trans {F G : Nat → Prop} {a b c : World} (h : Off F a b) (k : Off G b c) (hG : ∀ x, G x → F x ∨ a.heap.size ≤ x) : Off F a c :=
  ⟨k.os.trans h.os, k.tape.trans h.tape, k.output.trans h.output, Nat.le_trans h.size k.size, fun x hx hF => (k.block x (Nat.lt_of_lt_of_le hx h.size) (fun hg => (hG x hg).elim hF (fun h' => absurd hx (Nat.not_lt.2 h')))).trans (h.block x hx hF)⟩
theorem Off.mono {F G : Nat → Prop} {a b : World} (h : Off F a b) (hG : ∀ x, F x → G x) : Off G a b := ⟨h.os, h.tape, h.output, h.size, fun x hx hF => h.block x hx (fun hf => hF (hG x hf))⟩
theorem Off.of_grown {w w' : World} {row : Option Nat} (h : w.grownBy w' row) : Off (fun k => row = some k) w w' := ⟨h.os, h.tape, h.output, h.size, fun k hk hF => h.block k hk (fun e => hF e.symm)⟩
theorem Off.of_below {w w' : World} (h : Below w.heap.size w w') : Off (fun _ => False) w w' := ⟨h.os, h.tape, h.output, h.size, fun k hk _ => h.block k hk⟩
theorem Off.below {F : Nat → Prop} {w w' : World} (h : Off F w w') (hF : ∀ x, F x → w.heap.size ≤ x) : Below w.heap.size w w' :=
  ⟨h.os, h.tape, h.output, h.size, fun k hk => h.block k hk (fun hf => absurd hk (Nat.not_lt.2 (hF k hf)))⟩
theorem Off.cell {F : Nat → Prop} {w w' : World} (h : Off F w w') {b o : Nat} {v : Value} (hc : w.cell? ⟨b, o, none⟩ = some v) (hF : ¬ F b) : w'.cell? ⟨b, o, none⟩ = some v :=
  (World.cell?_of_block (a := ⟨b, o, none⟩) (h.block b (World.block_lt_of_cell? w ⟨b, o, none⟩ hc) hF)).trans hc
theorem Off.blk {F : Nat → Prop} {w w' : World} (h : Off F w w') {b : Nat} {o : Obj} (hb : Blk b o w) (hF : ¬ F b) : Blk b o w' := (h.block b hb.lt hF).trans hb

/-- The bytes of a list as a row's cells. -/
def bf (l : Bs) (j : Nat) : Value := .int .u8 ((l.getD j 0).toNat : Int)
/-- The slice value at A reads, in w, as these bytes. -/
def RB (w : World) (A : Option Addr) (l : Bs) : Prop :=
  0 < l.length → ∃ b off, A = some ⟨b, off, none⟩ ∧ b < w.heap.size ∧ ∀ j, j < l.length → w.cell? ⟨b, off + j, none⟩ = some (bf l j)
theorem RB.nil (w : World) (A : Option Addr) : RB w A [] := fun h => absurd h (by simp)
def aBlock (A : Option Addr) : Option Nat := A.map (·.block)
theorem RB.off {F : Nat → Prop} {w w' : World} {A : Option Addr} {l : Bs} (h : RB w A l) (ho : Off F w w') (hF : ∀ b, aBlock A = some b → ¬ F b) : RB w' A l := fun hz => by
  obtain ⟨b, off, rfl, hlt, hc⟩ := h hz
  have := ho.size
  exact ⟨b, off, rfl, by omega, fun j hj => ho.cell (hc j hj) (hF b rfl)⟩
theorem RB.below {w w' : World} {A : Option Addr} {l : Bs} (h : RB w A l) (hb : Below w.heap.size w w') : RB w' A l := h.off (Off.of_below hb) (fun _ _ h => h)
/-- The cells of bytes. -/
def cellsB (l : Bs) : List Value := l.map fun b => .int .u8 (b.toNat : Int)
theorem cellsB_length (l : Bs) : (cellsB l).length = l.length := by simp [cellsB]
theorem cellsB_append (a b : Bs) : cellsB (a ++ b) = cellsB a ++ cellsB b := by simp [cellsB]
theorem cellsB_at (l : Bs) (j : Nat) (h : j < l.length) : (cellsB l)[j]? = some (bf l j) := by simp [cellsB, bf, List.getD, h]
theorem cellsB_one (l : Bs) : ∀ u ∈ cellsB l, u.oneCell' = true := by
  intro u hu
  unfold cellsB at hu
  obtain ⟨x, _, rfl⟩ := List.mem_map.1 hu
  rfl
/-- A slice of the call's own that holds these bytes. -/
def OwnB6 (w : World) (base : Nat) (v : Value) (l : Bs) : Prop := w.ownsRow base 5 1 v l.length (cellsB l)
theorem OwnB6.read {w : World} {base : Nat} {v : Value} {l : Bs} (h : OwnB6 w base v l) : ∃ A c, v = .slice A l.length c ∧ l.length ≤ c ∧ RB w A l ∧ aBlock A = v.ownBlock := by
  rcases h.2 with ⟨rfl, hn⟩ | ⟨g, cap, cur, rfl, hb, hh, hc, _, _, _⟩
  · exact ⟨none, 0, by rw [hn], by omega, fun hz => absurd hz (by omega), rfl⟩
  · refine ⟨some ⟨g, 0, none⟩, cap, rfl, hc, fun _ => ⟨g, 0, rfl, (World.ownsRow.lt h g rfl).2, fun j hj => ?_⟩, rfl⟩
    rw [Nat.zero_add, World.ownsRow.cellAt h j (by omega), cellsB_at l j hj]
theorem own_off {F : Nat → Prop} {w w' : World} {base size n : Nat} {e : TypeId} {v : Value} {xs : List Value} (h : w.ownsRow base e size v n xs) (ho : Off F w w') (hF : ∀ b, v.ownBlock = some b → ¬ F b) : w'.ownsRow base e size v n xs := by
  have hl := h.lt
  refine h.kept (row := none) ⟨rfl, rfl, rfl, Nat.le_refl _, fun _ _ _ => rfl⟩ (Classical.em _) |> fun h2 => ?_
  obtain ⟨h1, h3⟩ := h2
  refine ⟨h1, ?_⟩
  rcases h3 with hn | ⟨g, cap, cur, rfl, hb, hgg, rest⟩
  · exact .inl hn
  · exact .inr ⟨g, cap, cur, rfl, hb, (ho.block g (hl g rfl).2 (hF g rfl)).trans hgg, rest⟩
theorem OwnB6.off {F : Nat → Prop} {w w' : World} {base : Nat} {v : Value} {l : Bs} (h : OwnB6 w base v l) (ho : Off F w w') (hF : ∀ b, v.ownBlock = some b → ¬ F b) : OwnB6 w' base v l := own_off h ho hF
theorem own_base {w : World} {base b2 size n : Nat} {e : TypeId} {v : Value} {xs : List Value} (h : w.ownsRow base e size v n xs) (hb : ∀ b, v.ownBlock = some b → b2 ≤ b) : w.ownsRow b2 e size v n xs := by
  refine ⟨h.1, ?_⟩
  rcases h.2 with hn | ⟨g, cap, cur, rfl, _, rest⟩
  · exact .inl hn
  · exact .inr ⟨g, cap, cur, rfl, hb g rfl, rest⟩
theorem own_kind {w : World} {base size n : Nat} {e : TypeId} {v : Value} {xs : List Value} (h : w.ownsRow base e size v n xs) {b : Nat} (hb : v.ownBlock = some b) : ∃ cur, Blk b (.cells cur e (0, 0)) w := by
  rcases h.2 with ⟨rfl, _⟩ | ⟨g, cap, cur, rfl, _, hgg, _⟩
  · cases hb
  · cases hb; exact ⟨cur, hgg⟩
/-- One field of a struct is written. -/
theorem st1 {ops : Array Oper} {rest : List Oper} {act : Act} {w : World} {Q : Exit → Act → World → Prop} {T ty : TypeId} {pos : String} {af : Array Edge} {i : Nat} {vx : Operand} {b k : Nat} {cs : Array Value} {t : TypeId} {v : Value}
    (hx : act.eval (.tmp i) = .pointer (some ⟨b, k, none⟩)) (hy : act.eval vx = v) (H : Blk b (.cells cs t (0, 0)) w) (hk : k < cs.size) (h1 : v.oneCell' = true) (hT : ∀ w, (Go.sizeOf T).run Tryd.prog w = .ok 1 w)
    (K : ∀ w', Blk b (.cells (cs.setIfInBounds k v) t (0, 0)) w' → w.grownBy w' (some b) → wpList Tryd.prog ops Q rest act w') :
    wpList Tryd.prog ops Q ({ dst := none, op := .store T (.tmp i) vx, type := ty, pos := pos, after := af, guard := none } :: rest) act w := by
  refine wpList_plain rfl fun K' hK => ?_
  have hc : w.cell? ⟨b, k, none⟩ = some cs[k] := by rw [H.cell]; exact Array.getElem?_eq_getElem hk
  have hf := H.free k
  have e0 : (⟨b, k, none⟩ : Addr).add 0 = ⟨b, k, none⟩ := by simp [Addr.add]
  have hst := run_store Tryd.prog w ⟨b, k, none⟩ v .plain h1
  rw [hc] at hst
  simp only [hf] at hst
  have hcl : v.cells = #[v] := by cases v <;> first | rfl | (simp [Value.oneCell'] at h1)
  have hr : (Instr.storeAt T (.pointer (some ⟨b, k, none⟩)) v).run Tryd.prog w = .ok () (w.setCell ⟨b, k, none⟩ v) := by
    simp [Instr.storeAt, Instr.sureAddr, storeVar, hT, hcl, storeCells, e0, hst]
  unfold Oper.wp execOp
  simp only [hx, hy, Sem.run_bind, Sem.run_pure, Result.andThen_ok, hr]
  exact hK _ _ (K _ (H.set k v) (grown_set _ _ _ _))
theorem size_of {T : TypeId} {n : Nat} (h : (Tryd.prog.info? T).map (fun i => i.size) = some n) (w : World) : (Go.sizeOf T).run Tryd.prog w = .ok n w := by
  cases hi : Tryd.prog.info? T with
  | none => rw [hi] at h; cases h
  | some i => rw [hi] at h; simp at h; simp [Go.sizeOf, typeInfo, hi, h]
/-- A nil slice appended to a slice that bears nothing behind, or one that holds nothing. -/
theorem append_zero_val {l : Bs} : cellsB l ++ [] = cellsB l := by simp
end Go.Proofs.YtchgelfomnbpaaaDoor
