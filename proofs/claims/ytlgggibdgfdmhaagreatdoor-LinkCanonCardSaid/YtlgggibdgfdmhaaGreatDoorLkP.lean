/-
  Plain facts of layer 4: the bytes of links, texts cut at a mark, decimal numerals, which texts are a link and its parts. No conditions.
-/
import Derived.Lib.IndexMore
import Derived.Lib.ItoaNum
namespace Go.Proofs.YtlgggibdgfdmhaaGreatDoor
open Go.Lib

def lowB (c : UInt8) : UInt8 := if 65 ≤ c ∧ c ≤ 90 then c + 32 else c
def smallL (l : List UInt8) : List UInt8 := l.map lowB
def letB (c : UInt8) : Bool := (decide (97 ≤ c) && decide (c ≤ 122)) || (decide (65 ≤ c) && decide (c ≤ 90))
def dgtB (c : UInt8) : Bool := decide (48 ≤ c) && decide (c ≤ 57)
def hexB (c : UInt8) : Bool := dgtB c || (decide (97 ≤ c) && decide (c ≤ 102)) || (decide (65 ≤ c) && decide (c ≤ 70))
def hostB (c : UInt8) : Bool := letB c || dgtB c || c == 45 || c == 46
def mailB (c : UInt8) : Bool := letB c || dgtB c || c == 64 || c == 46 || c == 95 || c == 43 || c == 45
def tailB (c : UInt8) : Bool := decide (33 ≤ c) && decide (c ≤ 126) && !([34, 60, 62, 92, 94, 96, 123, 124, 125] : List UInt8).contains c
def escAt : List UInt8 → Bool
  | a :: b :: _ => hexB a && hexB b
  | _ => false
def tailOk : List UInt8 → Bool
  | [] => true
  | c :: r => tailB c && (c != 37 || escAt r) && tailOk r
def schB (l : List UInt8) : Bool := smallL l == [104, 116, 116, 112] || smallL l == [104, 116, 116, 112, 115]
def pathB (l : List UInt8) : Bool := l.isEmpty || l.head? == some 47

theorem escAt_mid (r b : List UInt8) (c : UInt8) (hc : hexB c = false) : escAt (r ++ c :: b) = escAt r := by
  match r with
  | [] => cases b <;> simp [escAt, hc]
  | [x] => simp [escAt, hc]
  | x :: y :: t => rfl
theorem tailOk_mid (a b : List UInt8) (c : UInt8) (hc : hexB c = false) : tailOk (a ++ c :: b) = (tailOk a && tailOk (c :: b)) := by
  induction a with
  | nil => simp [tailOk]
  | cons x a ih =>
    rw [List.cons_append]
    show (tailB x && (x != 37 || escAt (a ++ c :: b)) && tailOk (a ++ c :: b)) = ((tailB x && (x != 37 || escAt a) && tailOk a) && tailOk (c :: b))
    rw [escAt_mid a b c hc, ih]
    cases tailB x <;> cases (x != 37 || escAt a) <;> simp
theorem tailOk_tail {c : UInt8} {r : List UInt8} (h : tailOk (c :: r) = true) : tailOk r = true := by
  unfold tailOk at h; simp only [Bool.and_eq_true] at h; exact h.2
theorem tailOk_cons {c : UInt8} {r : List UInt8} (hc : tailB c = true) (h37 : c ≠ 37) (h : tailOk r = true) : tailOk (c :: r) = true := by
  unfold tailOk; simp [hc, h37, h]

/-! ### texts cut at a mark -/

theorem pre_no {c x : UInt8} {t r : List UInt8} (h : c ≠ x) : (c :: t).isPrefixOf (x :: r) = false := by
  simp [List.isPrefixOf, h]
theorem index_mid (a b t : List UInt8) (c : UInt8) (h : c ∉ a) : index (a ++ c :: t ++ b) (c :: t) = a.length := by
  induction a with
  | nil =>
    simp only [List.nil_append, List.cons_append]
    unfold index
    rw [if_pos (by simp [List.isPrefixOf])]; rfl
  | cons x a ih =>
    have hx : c ≠ x := fun e => h (by rw [e]; simp)
    have ih := ih (fun m => h (by simp [m]))
    simp only [List.cons_append] at ih ⊢
    unfold index
    rw [pre_no hx, if_neg (by simp), ih, if_neg (by rw [beq_iff_eq]; omega)]
    simp
theorem cut_mid (a b t : List UInt8) (c : UInt8) (h : c ∉ a) : cut (a ++ c :: t ++ b) (c :: t) = (a, b, true) := by
  unfold cut
  rw [index_mid a b t c h, if_pos (by omega)]
  have h1 : (a ++ c :: t ++ b).take ((a.length : Int).toNat) = a := by simp
  have h2 : (a ++ c :: t ++ b).drop ((a.length : Int).toNat + (c :: t).length) = b := by
    rw [show (a.length : Int).toNat + (c :: t).length = (a ++ c :: t).length by simp]
    exact List.drop_left
  rw [h1, h2]
theorem cut_one (a b : List UInt8) (c : UInt8) (h : c ∉ a) : cut (a ++ c :: b) [c] = (a, b, true) := by
  have := cut_mid a b [] c h
  simpa using this
theorem index_absent (l t : List UInt8) (c : UInt8) (h : c ∉ l) : index l (c :: t) = -1 := by
  induction l with
  | nil => rfl
  | cons x l ih =>
    have hx : c ≠ x := fun e => h (by rw [e]; simp)
    unfold index
    rw [pre_no hx, if_neg (by simp), ih (fun m => h (by simp [m])), if_pos (by decide)]
theorem cut_absent (l t : List UInt8) (c : UInt8) (h : c ∉ l) : cut l (c :: t) = (l, [], false) := by
  unfold cut; rw [index_absent l t c h, if_neg (by omega)]
theorem cut_yes {l sep : List UInt8} (h : (cut l sep).2.2 = true) : l = (cut l sep).1 ++ sep ++ (cut l sep).2.1 := by
  unfold cut at h ⊢
  split at h
  · rename_i h0
    rw [if_pos h0]
    rcases index_spec l sep with ⟨h1, _⟩ | ⟨i, h1, h2, h3, _⟩
    · omega
    · rw [h1]
      simp only [Int.toNat_natCast]
      unfold occAt at h3
      obtain ⟨r, hr⟩ := List.isPrefixOf_iff_prefix.1 h3
      have : l.drop (i + sep.length) = r := by
        rw [← List.drop_drop, ← hr]; simp
      rw [this, List.append_assoc, hr, List.take_append_drop]
  · cases h
theorem first_at {l : List UInt8} {c : UInt8} (h : c ∈ l) : ∃ a b, l = a ++ c :: b ∧ c ∉ a := by
  induction l with
  | nil => cases h
  | cons x l ih =>
    by_cases e : x = c
    · exact ⟨[], l, by rw [e]; rfl, by simp⟩
    · rcases List.mem_cons.1 h with h | h
      · exact absurd h.symm e
      · obtain ⟨a, b, rfl, hn⟩ := ih h
        exact ⟨x :: a, b, rfl, by rw [List.mem_cons, not_or]; exact ⟨fun h => e h.symm, hn⟩⟩
/-- At one byte: either it is there, and not ahead of the cut, or it is nowhere. -/
theorem cut1_or (l : List UInt8) (c : UInt8) : (c ∉ l ∧ cut l [c] = (l, [], false)) ∨ (∃ a b, l = a ++ c :: b ∧ c ∉ a ∧ cut l [c] = (a, b, true)) := by
  by_cases h : c ∈ l
  · right
    obtain ⟨a, b, rfl, hna⟩ := first_at h
    exact ⟨a, b, rfl, hna, cut_one a b c hna⟩
  · exact .inl ⟨h, cut_absent l [] c h⟩

/-! ### decimal numerals -/

def decV (l : List UInt8) : Nat := l.foldl (fun a c => a * 10 + (c.toNat - 48)) 0
theorem decV_snoc (l : List UInt8) (c : UInt8) : decV (l ++ [c]) = decV l * 10 + (c.toNat - 48) := by simp [decV]
theorem dgtB_iff (c : UInt8) : dgtB c = true ↔ 48 ≤ c.toNat ∧ c.toNat ≤ 57 := by
  simp [dgtB, UInt8.le_iff_toNat_le]
theorem dgt_of (n : Nat) (h : n < 10) : dgtB (UInt8.ofNat (48 + n)) = true ∧ (UInt8.ofNat (48 + n)).toNat = 48 + n := by
  have : (UInt8.ofNat (48 + n)).toNat = 48 + n := by simp; omega
  exact ⟨by rw [dgtB_iff, this]; omega, this⟩
theorem dec_all (n : Nat) : (decDigits n).all dgtB = true := by
  induction n using Nat.strongRecOn with
  | _ n ih =>
    rw [decDigits]
    split
    · rename_i h; rw [List.all_cons, (dgt_of n h).1]; rfl
    · rw [List.all_append, ih (n / 10) (by omega), List.all_cons, (dgt_of (n % 10) (by omega)).1]; rfl
theorem decV_dec (n : Nat) : decV (decDigits n) = n := by
  induction n using Nat.strongRecOn with
  | _ n ih =>
    rw [decDigits]
    split
    · rename_i h
      have := (dgt_of n h).2
      simp only [decV, List.foldl_cons, List.foldl_nil]
      omega
    · rw [decV_snoc, ih (n / 10) (by omega), (dgt_of (n % 10) (by omega)).2]
      omega
theorem dec_ne (n : Nat) : decDigits n ≠ [] := by
  rw [decDigits]; split <;> simp
theorem dec_head (n : Nat) (h : 0 < n) : ∃ c r, decDigits n = c :: r ∧ c ≠ 48 := by
  induction n using Nat.strongRecOn with
  | _ n ih =>
    rw [decDigits]
    split
    · rename_i h9
      refine ⟨_, _, rfl, fun e => ?_⟩
      have := (dgt_of n h9).2
      rw [e] at this
      have h48 : (48 : UInt8).toNat = 48 := rfl
      omega
    · obtain ⟨c, r, hc, hn⟩ := ih (n / 10) (by omega) (by omega)
      rw [hc]
      exact ⟨c, r ++ [_], rfl, hn⟩
theorem decV_pos {c : UInt8} {r : List UInt8} (h : (c :: r).all dgtB = true) (hc : c ≠ 48) : 0 < decV (c :: r) := by
  have key : ∀ (r : List UInt8) (a : Nat), 0 < a → 0 < r.foldl (fun a c => a * 10 + (c.toNat - 48)) a := by
    intro r
    induction r with
    | nil => intro a h; exact h
    | cons x r ih =>
      intro a h
      have : 0 < a * 10 + (x.toNat - 48) := by omega
      exact ih _ this
  simp only [List.all_cons, Bool.and_eq_true] at h
  have h1 := (dgtB_iff c).1 h.1
  have h2 : c.toNat ≠ 48 := fun e => hc (UInt8.toNat_inj.1 e)
  have h3 : 0 < 0 * 10 + (c.toNat - 48) := by omega
  exact key r _ h3
theorem dec_decV (l : List UInt8) : ∀ (c : UInt8) (r : List UInt8), l = c :: r → l.all dgtB = true → c ≠ 48 → decDigits (decV l) = l := by
  induction hn : l.length generalizing l with
  | zero => intro c r h; subst h; simp at hn
  | succ n ih =>
    intro c r h hall hc
    rcases List.eq_nil_or_concat l with h0 | ⟨m, d, hm⟩
    · rw [h0] at h; cases h
    · rw [List.concat_eq_append] at hm
      subst hm
      have hd : dgtB d = true := by simp [List.all_append] at hall; exact hall.2
      have hall' : m.all dgtB = true := by rw [List.all_append, Bool.and_eq_true] at hall; exact hall.1
      have hdn := (dgtB_iff d).1 hd
      have hofd : UInt8.ofNat (48 + (d.toNat - 48)) = d := by
        apply UInt8.toNat_inj.1
        rw [(dgt_of (d.toNat - 48) (by omega)).2]; omega
      rw [decV_snoc]
      match m, h with
      | [], h =>
        simp only [List.nil_append] at h ⊢
        have : d = c := by injection h
        subst this
        rw [decDigits, dif_pos (by simp [decV]; omega)]
        simp [decV, hofd]
      | x :: m', h =>
        have hx : x = c := by injection h
        subst hx
        have hp := decV_pos hall' hc
        rw [decDigits, dif_neg (by omega), show (decV (x :: m') * 10 + (d.toNat - 48)) / 10 = decV (x :: m') by omega, show (decV (x :: m') * 10 + (d.toNat - 48)) % 10 = d.toNat - 48 by omega, hofd,
          ih (x :: m') (by simp at hn ⊢; exact hn) x m' rfl hall' hc]

/-! ### links -/

structure Lk where
  scheme : List UInt8
  host : List UInt8
  port : Nat
  path : List UInt8
  query : List UInt8
  frag : List UInt8
  hasQ : Bool
  hasF : Bool
  deriving DecidableEq
def Lk.zero : Lk := ⟨[], [], 0, [], [], [], false, false⟩
def portL (n : Nat) : List UInt8 := if n = 0 then [] else 58 :: decDigits n
def rootL (p : Lk) : List UInt8 := p.scheme ++ [58, 47, 47] ++ p.host ++ portL p.port
def markL (b : Bool) (c : UInt8) (l : List UInt8) : List UInt8 := if b then c :: l else []
def restL (p : Lk) : List UInt8 := p.path ++ markL p.hasQ 63 p.query ++ markL p.hasF 35 p.frag
def printL (p : Lk) : List UInt8 := rootL p ++ restL p
structure WF (p : Lk) : Prop where
  sch : schB p.scheme = true
  host : p.host.all hostB = true
  host1 : 1 ≤ p.host.length
  host2 : p.host.length ≤ 253
  port : p.port ≤ 65535
  path : pathB p.path = true
  tail : tailOk (restL p) = true
  pathQ : 63 ∉ p.path
  pathF : 35 ∉ p.path
  quF : 35 ∉ p.query
  frF : 35 ∉ p.frag
  noQ : p.hasQ = false → p.query = []
  noF : p.hasF = false → p.frag = []
def IsLink (l : List UInt8) (p : Lk) : Prop := l = printL p ∧ WF p ∧ l.length ≤ 2048

/-- A port at the front: its number, and what is behind it. -/
def portCut : List UInt8 → Option (Nat × List UInt8)
  | [] => some (0, [])
  | c :: t => if c = 58 then
      (if (t.takeWhile dgtB).isEmpty || (t.takeWhile dgtB).head? == some 48 then none
       else if 65535 < decV (t.takeWhile dgtB) then none else some (decV (t.takeWhile dgtB), t.drop (t.takeWhile dgtB).length))
    else some (0, c :: t)
theorem portCut_cons (c : UInt8) (t : List UInt8) : portCut (c :: t) = if c = 58 then
      (if (t.takeWhile dgtB).isEmpty || (t.takeWhile dgtB).head? == some 48 then none
       else if 65535 < decV (t.takeWhile dgtB) then none else some (decV (t.takeWhile dgtB), t.drop (t.takeWhile dgtB).length))
    else some (0, c :: t) := rfl
/-- What stands behind the port, taken apart. -/
def restCut (a h : List UInt8) (n : Nat) (r : List UInt8) : Option Lk :=
  if pathB (cut (cut r [35]).1 [63]).1 && !(cut r [35]).2.1.contains 35 then
    some ⟨a, h, n, (cut (cut r [35]).1 [63]).1, (cut (cut r [35]).1 [63]).2.1, (cut r [35]).2.1, (cut (cut r [35]).1 [63]).2.2, (cut r [35]).2.2⟩
  else none
def behind (a b : List UInt8) : Option Lk :=
  if (b.takeWhile hostB).length < 1 ∨ 253 < (b.takeWhile hostB).length then none
  else match portCut (b.drop (b.takeWhile hostB).length) with
    | none => none
    | some (n, r) => if tailOk r then restCut a (b.takeWhile hostB) n r else none
def apartL (l : List UInt8) : Option Lk :=
  if (cut l [58, 47, 47]).2.2 && schB (cut l [58, 47, 47]).1 then behind (cut l [58, 47, 47]).1 (cut l [58, 47, 47]).2.1 else none
def parseL (l : List UInt8) : Option Lk := if 2048 < l.length then none else apartL l

theorem takeWhile_mid {f : UInt8 → Bool} (a b : List UInt8) (ha : a.all f = true) (hb : ∀ c r, b = c :: r → f c = false) : (a ++ b).takeWhile f = a := by
  induction a with
  | nil =>
    cases b with
    | nil => rfl
    | cons c r => simp [hb c r rfl]
  | cons x a ih =>
    simp only [List.all_cons, Bool.and_eq_true] at ha
    simp [ha.1, ih ha.2]
theorem takeWhile_all (f : UInt8 → Bool) (l : List UInt8) : (l.takeWhile f).all f = true := by
  induction l with
  | nil => rfl
  | cons x l ih =>
    cases h : f x
    · simp [List.takeWhile, h]
    · rw [List.takeWhile_cons_of_pos h, List.all_cons, h, ih]; rfl
theorem takeWhile_drop (f : UInt8 → Bool) (l : List UInt8) : l.takeWhile f ++ l.drop (l.takeWhile f).length = l := by
  induction l with
  | nil => rfl
  | cons x l ih =>
    cases h : f x <;> simp [List.takeWhile, h, ih]
theorem takeWhile_next (f : UInt8 → Bool) (l : List UInt8) : ∀ c r, l.drop (l.takeWhile f).length = c :: r → f c = false := by
  induction l with
  | nil => intro c r h; simp at h
  | cons x l ih =>
    intro c r h
    cases hx : f x
    · simp [List.takeWhile, hx] at h; rw [← h.1]; exact hx
    · simp [List.takeWhile, hx] at h; exact ih c r h

theorem sch_no (l : List UInt8) (h : schB l = true) : 58 ∉ l := by
  intro hm
  have h1 : (58 : UInt8) ∈ smallL l := by
    unfold smallL
    exact List.mem_map.2 ⟨58, hm, by decide⟩
  unfold schB at h
  rw [Bool.or_eq_true, beq_iff_eq, beq_iff_eq] at h
  rcases h with h | h <;> (rw [h] at h1; revert h1; decide)
theorem portCut_some {r r2 : List UInt8} {n : Nat} (h : portCut r = some (n, r2)) : r = portL n ++ r2 ∧ n ≤ 65535 ∧ (n = 0 → r.head? ≠ some 58) := by
  cases r with
  | nil => simp [portCut] at h; obtain ⟨rfl, rfl⟩ := h; exact ⟨rfl, by omega, by simp⟩
  | cons c t =>
    rw [portCut_cons] at h
    split at h
    · rename_i hc
      subst hc
      split at h
      · cases h
      · rename_i h1
        split at h
        · cases h
        · rename_i h2
          injection h with h
          injection h with ha hb
          have hall := takeWhile_all dgtB t
          have htd := takeWhile_drop dgtB t
          rw [hb] at htd
          simp only [Bool.or_eq_true, not_or] at h1
          cases hd : t.takeWhile dgtB with
          | nil => rw [hd] at h1; simp at h1
          | cons x d =>
            rw [hd] at h1 hall ha htd h2
            have hx : x ≠ 48 := by simpa using h1.2
            have hp := decV_pos hall hx
            have he := dec_decV (x :: d) x d rfl hall hx
            rw [ha] at hp he h2
            refine ⟨?_, by omega, by omega⟩
            unfold portL
            rw [if_neg (by omega), he, ← htd]
            rfl
    · rename_i hc
      injection h with h
      injection h with ha hb
      subst ha hb
      exact ⟨rfl, by omega, fun _ => by simpa using hc⟩
theorem mark_head {b : Bool} {c : UInt8} {l : List UInt8} {x : UInt8} {r : List UInt8} (h : markL b c l = x :: r) : x = c := by
  unfold markL at h
  split at h
  · injection h with h1; exact h1.symm
  · cases h
theorem rest_head {p : Lk} (hp : pathB p.path = true) {c : UInt8} {r : List UInt8} (h : restL p = c :: r) : c = 47 ∨ c = 63 ∨ c = 35 := by
  unfold restL at h
  cases hpa : p.path with
  | nil =>
    rw [hpa, List.nil_append] at h
    cases hq : markL p.hasQ 63 p.query with
    | nil => rw [hq, List.nil_append] at h; exact .inr (.inr (mark_head h))
    | cons x r' =>
      rw [hq] at h
      injection h with h1
      exact .inr (.inl (h1 ▸ mark_head hq))
  | cons x r' =>
    rw [hpa] at h hp
    injection h with h1
    subst h1
    left
    simp [pathB] at hp
    exact hp
theorem portCut_print (n : Nat) (r : List UInt8) (hn : n ≤ 65535) (hr : ∀ c t, r = c :: t → c = 47 ∨ c = 63 ∨ c = 35) : portCut (portL n ++ r) = some (n, r) := by
  unfold portL
  split
  · rename_i h0
    subst h0
    cases r with
    | nil => rfl
    | cons c t =>
      have := hr c t rfl
      rw [List.nil_append, portCut_cons, if_neg (by rintro rfl; rcases this with h | h | h <;> revert h <;> decide)]
  · rename_i h0
    obtain ⟨c, d, hd, hc⟩ := dec_head n (by omega)
    have hall := dec_all n
    have htw : (decDigits n ++ r).takeWhile dgtB = decDigits n := takeWhile_mid _ _ hall (fun c t h => by
      rcases hr c t h with h | h | h <;> (subst h; decide))
    rw [List.cons_append, portCut_cons, if_pos rfl, htw, decV_dec, if_neg (by rw [hd]; simp [hc]), if_neg (by omega)]
    simp
theorem contains_no {l : List UInt8} {c : UInt8} : l.contains c = false ↔ c ∉ l := by simp
/-- What a link's text is taken apart into is that link. -/
theorem restCut_print (p : Lk) (hp : WF p) : restCut p.scheme p.host p.port (restL p) = some p := by
  have hcut : cut (restL p) [35] = (p.path ++ markL p.hasQ 63 p.query, p.frag, p.hasF) := by
    have hno : (35 : UInt8) ∉ p.path ++ markL p.hasQ 63 p.query := by
      rw [List.mem_append, not_or]
      refine ⟨hp.pathF, ?_⟩
      unfold markL; split
      · rw [List.mem_cons, not_or]; exact ⟨by decide, hp.quF⟩
      · simp
    unfold restL
    cases hf : p.hasF with
    | true => rw [show markL true 35 p.frag = 35 :: p.frag from rfl]; exact cut_one _ _ _ hno
    | false => rw [show markL false 35 p.frag = [] from rfl, List.append_nil, hp.noF hf]; exact cut_absent _ _ _ hno
  have hcut2 : cut (p.path ++ markL p.hasQ 63 p.query) [63] = (p.path, p.query, p.hasQ) := by
    cases hf : p.hasQ with
    | true => rw [show markL true 63 p.query = 63 :: p.query from rfl]; exact cut_one _ _ _ hp.pathQ
    | false => rw [show markL false 63 p.query = [] from rfl, List.append_nil, hp.noQ hf]; exact cut_absent _ _ _ hp.pathQ
  unfold restCut
  rw [hcut]
  simp only
  rw [hcut2]
  simp only
  rw [if_pos (by rw [hp.path, contains_no.2 hp.frF]; rfl)]
theorem apartL_print (p : Lk) (hp : WF p) : apartL (printL p) = some p := by
  have hcut : cut (printL p) [58, 47, 47] = (p.scheme, p.host ++ portL p.port ++ restL p, true) := by
    have := cut_mid p.scheme (p.host ++ portL p.port ++ restL p) [47, 47] 58 (sch_no _ hp.sch)
    rw [← this]
    congr 1
    unfold printL rootL
    simp [List.append_assoc]
  have hrh : ∀ c t, restL p = c :: t → c = 47 ∨ c = 63 ∨ c = 35 := fun c t h => rest_head hp.path h
  have htw : (p.host ++ portL p.port ++ restL p).takeWhile hostB = p.host := by
    rw [List.append_assoc]
    refine takeWhile_mid _ _ hp.host (fun c r h => ?_)
    unfold portL at h
    split at h
    · rcases hrh c r h with h | h | h <;> (subst h; decide)
    · injection h with h; rw [← h]; decide
  have hdr : (p.host ++ portL p.port ++ restL p).drop p.host.length = portL p.port ++ restL p := by
    rw [List.append_assoc]; exact List.drop_left
  unfold apartL
  rw [hcut]
  simp only
  rw [hp.sch, if_pos (by decide)]
  unfold behind
  have h1 := hp.host1
  have h2 := hp.host2
  rw [htw, if_neg (by omega), hdr, portCut_print _ _ hp.port hrh]
  simp only
  rw [if_pos hp.tail, restCut_print p hp]
theorem restCut_some {a h r : List UInt8} {n : Nat} {p : Lk} (he : restCut a h n r = some p) : p.scheme = a ∧ p.host = h ∧ p.port = n ∧ restL p = r ∧ pathB p.path = true ∧ 63 ∉ p.path ∧ 35 ∉ p.path ∧ 35 ∉ p.query ∧ 35 ∉ p.frag ∧ (p.hasQ = false → p.query = []) ∧ (p.hasF = false → p.frag = []) := by
  unfold restCut at he
  split at he
  · rename_i hc
    injection he with he
    rw [Bool.and_eq_true] at hc
    obtain ⟨hc1, hc2⟩ := hc
    rcases cut1_or r 35 with ⟨n1, e1⟩ | ⟨x, y, rx, n1, e1⟩
    all_goals
      rw [e1] at he hc1 hc2
      simp only at he hc1 hc2
    · rcases cut1_or r 63 with ⟨n2, e2⟩ | ⟨x, y, rx, n2, e2⟩
      all_goals
        rw [e2] at he hc1
        simp only at he hc1
        subst he
      · exact ⟨rfl, rfl, rfl, by simp [restL, markL], hc1, n2, n1, by simp, by simp, fun _ => rfl, fun _ => rfl⟩
      · subst rx
        rw [List.mem_append, List.mem_cons, not_or, not_or] at n1
        exact ⟨rfl, rfl, rfl, by simp [restL, markL], hc1, n2, n1.1, n1.2.2, by simp, by simp, fun _ => rfl⟩
    · have hy : (35 : UInt8) ∉ y := by simpa using hc2
      subst rx
      rcases cut1_or x 63 with ⟨n2, e2⟩ | ⟨x2, y2, rx2, n2, e2⟩
      all_goals
        rw [e2] at he hc1
        simp only at he hc1
        subst he
      · exact ⟨rfl, rfl, rfl, by simp [restL, markL], hc1, n2, n1, by simp, hy, fun _ => rfl, by simp⟩
      · subst rx2
        rw [List.mem_append, List.mem_cons, not_or, not_or] at n1
        exact ⟨rfl, rfl, rfl, by simp [restL, markL], hc1, n2, n1.1, n1.2.2, hy, by simp, by simp⟩
  · cases he
theorem apartL_some {l : List UInt8} {p : Lk} (h : apartL l = some p) : l = printL p ∧ WF p := by
  unfold apartL at h
  split at h
  · rename_i hc
    rw [Bool.and_eq_true] at hc
    have hl := cut_yes hc.1
    have hs := hc.2
    generalize (cut l [58, 47, 47]).1 = a at *
    generalize (cut l [58, 47, 47]).2.1 = b at *
    unfold behind at h
    split at h
    · cases h
    · rename_i hlen
      split at h
      · cases h
      · rename_i n r hpc
        split at h
        · rename_i htail
          obtain ⟨h1, h2, h3, h4, h5, h6, h7, h8, h9, h10, h11⟩ := restCut_some h
          obtain ⟨e1, e2, _⟩ := portCut_some hpc
          have e3 := takeWhile_drop hostB b
          have e4 := takeWhile_all hostB b
          generalize b.takeWhile hostB = hh at *
          refine ⟨?_, ⟨h1 ▸ hs, h2 ▸ e4, by rw [h2]; omega, by rw [h2]; omega, by omega, h5, by rw [h4]; exact htail, h6, h7, h8, h9, h10, h11⟩⟩
          unfold printL rootL
          rw [h1, h2, h3, h4, hl, ← e3, e1]
          simp [List.append_assoc]
        · cases h
  · cases h
theorem parseL_some {l : List UInt8} {p : Lk} (h : parseL l = some p) : IsLink l p := by
  unfold parseL at h
  split at h
  · cases h
  · obtain ⟨h1, h2⟩ := apartL_some h
    exact ⟨h1, h2, by omega⟩
theorem parseL_of {l : List UInt8} {p : Lk} (h : IsLink l p) : parseL l = some p := by
  obtain ⟨h1, h2, h3⟩ := h
  unfold parseL
  rw [if_neg (by omega), h1, apartL_print p h2]
theorem parseL_print {p : Lk} (h : WF p) (hl : (printL p).length ≤ 2048) : parseL (printL p) = some p := parseL_of ⟨rfl, h, hl⟩
theorem parseL_iff {l : List UInt8} {f : Option Lk} (h1 : ∀ p, f = some p → IsLink l p) (h2 : ∀ p, IsLink l p → f = some p) : f = parseL l := by
  cases hf : f with
  | none =>
    cases hp : parseL l with
    | none => rfl
    | some p => rw [h2 p (parseL_some hp)] at hf; cases hf
  | some p => exact (parseL_of (h1 p hf)).symm
end Go.Proofs.YtlgggibdgfdmhaaGreatDoor
