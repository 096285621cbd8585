/-
  Of the proofs of layer 8 (elements of XML): the parts XmP XmQ XmR. No conditions.
-/
import Derived.Test.YtklcjimmbkpbdaaGreatDoorZ01
namespace Go.Proofs.YtklcjimmbkpbdaaGreatDoor
open Go.Lib

abbrev Bt := List UInt8
/-- An attribute: its space, its name, its value. -/
abbrev XA := Bt × Bt × Bt
/-- A node, whatever it holds. -/
inductive XV where
  | mk (space name : Bt) (attrs : List XA) (kids : List XV) (text : Bt)
def XV.space : XV → Bt | .mk s _ _ _ _ => s
def XV.name : XV → Bt | .mk _ n _ _ _ => n
def XV.attrs : XV → List XA | .mk _ _ a _ _ => a
def XV.kids : XV → List XV | .mk _ _ _ k _ => k
def XV.text : XV → Bt | .mk _ _ _ _ t => t
def zeroX : XV := .mk [] [] [] [] []
def textX (t : Bt) : XV := .mk [] [] [] [] t
def isBl (c : UInt8) : Bool := c == 32 || c == 9 || c == 10 || c == 13
def blanksL (s : Bt) : Bt := s.dropWhile isBl
/-! ### Names, words -/
def begB (c : UInt8) : Bool := decide (97 ≤ c.toNat ∧ c.toNat ≤ 122 ∨ 65 ≤ c.toNat ∧ c.toNat ≤ 90 ∨ c.toNat = 95 ∨ 128 ≤ c.toNat)
def goB (c : UInt8) : Bool := begB c || decide (48 ≤ c.toNat ∧ c.toNat ≤ 57 ∨ c.toNat = 45 ∨ c.toNat = 46)
/-- How many bytes at the front are a name. -/
def nameW : Bt → Nat
  | [] => 0
  | c :: r => if begB c = true then 1 + (r.takeWhile goB).length else 0
def isNameL : Bt → Bool
  | [] => false
  | c :: r => begB c && r.all goB
def wordL (w s : Bt) : Option Bt := if w.isPrefixOf s = true then some (s.drop w.length) else none
/-- All up to a word, and what stands behind it. -/
def toL (w : Bt) : Bt → Option (Bt × Bt)
  | [] => none
  | c :: r => if w.isPrefixOf (c :: r) = true then some ([], (c :: r).drop w.length) else (toL w r).map fun x => (c :: x.1, x.2)
def remL (s : Bt) : Option Bt := match toL [45, 45] s with | none => none | some (_, r) => wordL [62] r
def insL (s : Bt) : Option Bt := if nameW s = 0 then none else (toL [63, 62] (s.drop (nameW s))).map (·.2)
/-- A remark or an instruction: none: it is no good; some none: there is none. -/
def asideL (s : Bt) : Option (Option Bt) :=
  match wordL [60, 33, 45, 45] s with
  | some r => (remL r).map some
  | none => match wordL [60, 63] s with
    | some r => (insL r).map some
    | none => some none
def aroundN : Nat → Bt → Option Bt
  | 0, _ => none
  | n + 1, s => match asideL (blanksL s) with
    | none => none
    | some none => some (blanksL s)
    | some (some r) => aroundN n r
def aroundL (s : Bt) : Option Bt := aroundN (s.length + 1) s
/-- A qualified name: its prefix (none: empty), its name. -/
abbrev XN := Bt × Bt
def markL (s : Bt) : Option (XN × Bt) :=
  if nameW s = 0 then none else
    match wordL [58] (s.drop (nameW s)) with
    | none => some (([], s.take (nameW s)), s.drop (nameW s))
    | some r => if nameW r = 0 then none else some ((s.take (nameW s), r.take (nameW r)), r.drop (nameW r))
/-! ### Values -/
def linesL : Bt → Bt
  | [] => []
  | c :: r => if c = 13 then (if r.head? = some 10 then linesL r else 10 :: linesL r) else c :: linesL r
def refsN : Nat → Bt → Option Bt
  | 0, _ => some []
  | _ + 1, [] => some []
  | n + 1, c :: r => if c = 38 then (if (refQ r).2 = 0 ∨ inXml (refQ r).1 = false then none else (refsN n (r.drop ((refQ r).2 - 1))).map (encodeRune (refQ r).1 ++ ·)) else (refsN n r).map (c :: ·)
def refsL (l : Bt) : Option Bt := refsN l.length l
def valueL : Bt → Option (Bt × Bt)
  | [] => none
  | q :: r => if q = 34 ∨ q = 39 then (match toL [q] r with
    | none => none
    | some (v, r') => if (60 : UInt8) ∈ v then none else (refsL (linesL v)).map fun x => (x, r')) else none
/-- An attribute as it is written: its qualified name, its value. -/
abbrev XM := XN × Bt
def attrL (s : Bt) : Option (XM × Bt) :=
  match markL s with
  | none => none
  | some (m, r) => match wordL [61] (blanksL r) with
    | none => none
    | some r => (valueL (blanksL r)).map fun x => ((m, x.1), x.2)
def tagN : Nat → Bt → Option (List XM × Bool × Bt)
  | 0, _ => none
  | n + 1, s => match wordL [47, 62] (blanksL s) with
    | some r => some ([], true, r)
    | none => match wordL [62] (blanksL s) with
      | some r => some ([], false, r)
      | none => if (blanksL s).length = s.length then none else
        match attrL (blanksL s) with
        | none => none
        | some (m, r) => (tagN n r).map fun x => (m :: x.1, x.2)
def tagL (s : Bt) : Option (List XM × Bool × Bt) := tagN (s.length + 1) s
/-! ### What prefixes stand for -/
abbrev XS := List (Bt × Bt)
def xmlnsW : Bt := [120, 109, 108, 110, 115]
def xmlW : Bt := [120, 109, 108]
def nsW : Bt := [104, 116, 116, 112, 58, 47, 47, 119, 119, 119, 46, 119, 51, 46, 111, 114, 103, 47, 88, 77, 76, 47, 49, 57, 57, 56, 47, 110, 97, 109, 101, 115, 112, 97, 99, 101]
def scope0 : XS := [([], []), (xmlW, nsW)]
def findX : XS → Bt → Option Bt
  | [], _ => none
  | (q, v) :: l, p => match findX l p with
    | some x => some x
    | none => if q = p then some v else none
def declX (m : XM) : Option Bt := if m.1.1 = xmlnsW then some m.1.2 else if m.1.1 = [] ∧ m.1.2 = xmlnsW then some [] else none
def declsX (ms : List XM) : XS := ms.filterMap fun m => (declX m).map fun p => (p, m.2)
def othersX (ms : List XM) : List XM := ms.filter fun m => (declX m).isNone
def scopeX (sc : XS) (ms : List XM) : Option XS :=
  if (declsX ms).any (fun d => !(d.1 == []) && d.2 == []) = true ∨ ¬ ((declsX ms).map (·.1)).Nodup then none else some (sc ++ declsX ms)
def attrX (sc : XS) (m : XM) : Option XA := if m.1.1 = [] then some ([], m.1.2, m.2) else (findX sc m.1.1).map fun sp => (sp, m.1.2, m.2)
def mapX {α β : Type} (f : α → Option β) : List α → Option (List β)
  | [] => some []
  | a :: l => match f a with
    | none => none
    | some b => (mapX f l).map (b :: ·)
def uniqX (l : List XA) : Bool := decide (l.map fun a => (a.1, a.2.1)).Nodup
/-- An element's start: the node without kids, and what prefixes stand for in it. -/
def startX (sc : XS) (nm : XN) (ms : List XM) : Option (XV × XS) :=
  match scopeX sc ms with
  | none => none
  | some sc' => match findX sc' nm.1 with
    | none => none
    | some sp => match mapX (attrX sc') (othersX ms) with
      | none => none
      | some l => if uniqX l = true then some (.mk sp nm.2 l [] [], sc') else none
/-! ### Elements -/
def writtenX (nm : XN) : Bt := if nm.1 = [] then nm.2 else nm.1 ++ 58 :: nm.2
def endX (nm : XN) (s : Bt) : Option Bt := match wordL (writtenX nm) s with | none => none | some r => wordL [62] (blanksL r)
def allX (ks : List XV) (t : Bt) : List XV := if t = [] then ks else ks ++ [textX t]
def XV.withKids : XV → List XV → XV | .mk s n a _ t, ks => .mk s n a ks t
def cdataW : Bt := [60, 33, 91, 67, 68, 65, 84, 65, 91]
def cdendW : Bt := [93, 93, 62]
def ltN (c : UInt8) : Bool := !(c == 60)
/-- A text up to the next <. -/
def textL (s : Bt) : Option (Bt × Bt) :=
  if (toL cdendW (s.takeWhile ltN)).isSome = true ∨ s.dropWhile ltN = [] then none else (refsL (linesL (s.takeWhile ltN))).map fun x => (x, s.dropWhile ltN)
mutual
def elemN : Nat → Nat → XS → Bt → Except Int (XV × Bt)
  | 0, _, _, _ => .error 70
  | n + 1, d, sc, s => match markL s with
    | none => .error 70
    | some (nm, s1) => match tagL s1 with
      | none => .error 70
      | some (ms, closed, s2) => match startX sc nm ms with
        | none => .error 70
        | some (v, sc') => if d = 24 then .error 71 else if closed = true then .ok (v, s2) else
          match kidsN n (d + 1) sc' s2 [] [] with
          | .error e => .error e
          | .ok (ks, s3) => match endX nm s3 with
            | none => .error 70
            | some s4 => .ok (v.withKids ks, s4)
def kidsN : Nat → Nat → XS → Bt → List XV → Bt → Except Int (List XV × Bt)
  | 0, _, _, _, _, _ => .error 70
  | n + 1, d, sc, s, ks, t => match wordL [60, 47] s with
    | some r => .ok (allX ks t, r)
    | none => match wordL cdataW s with
      | some r => (match toL cdendW r with
        | none => .error 70
        | some (a, r') => kidsN n d sc r' ks (t ++ linesL a))
      | none => match asideL s with
        | none => .error 70
        | some (some r) => kidsN n d sc r ks t
        | some none => match wordL [60] s with
          | some r => (match elemN n d sc r with
            | .error e => .error e
            | .ok (v, r') => kidsN n d sc r' (allX ks t ++ [v]) [])
          | none => match textL s with
            | none => .error 70
            | some (x, r) => kidsN n d sc r ks (t ++ x)
end
def elemX (d : Nat) (sc : XS) (s : Bt) : Except Int (XV × Bt) := elemN (s.length + 1) d sc s
def kidsX (d : Nat) (sc : XS) (s : Bt) (ks : List XV) (t : Bt) : Except Int (List XV × Bt) := kidsN (s.length + 1) d sc s ks t
/-! ### Documents -/
def bomW : Bt := [239, 187, 191]
def plainB (s : Bt) : Bool := enc ((pts s).filter inXml) == s
def docX (s : Bt) : XV × Int :=
  match aroundL s with
  | none => (zeroX, 70)
  | some s1 => match wordL [60] s1 with
    | none => (zeroX, 70)
    | some s2 => match elemX 0 scope0 s2 with
      | .error e => (zeroX, e)
      | .ok (v, s3) => match aroundL s3 with
        | none => (zeroX, 70)
        | some r => if r = [] then (v, 0) else (zeroX, 70)
def unbomL (b : Bt) : Bt := if bomW.isPrefixOf b = true then b.drop 3 else b
def parseX (b : Bt) : XV × Int :=
  if 65536 < b.length then (zeroX, 72) else if plainB (unbomL b) = true then docX (unbomL b) else (zeroX, 70)
/-! ### Each step shortens what is left -/
theorem blanks_le (s : Bt) : (blanksL s).length ≤ s.length := (List.dropWhile_suffix _).length_le
theorem nameW_le (s : Bt) : nameW s ≤ s.length := by
  cases s with
  | nil => exact Nat.le_refl _
  | cons c r =>
    simp only [nameW]
    have := (List.takeWhile_prefix goB (l := r)).length_le
    split <;> simp only [List.length_cons] <;> omega
theorem word_len {w s r : Bt} (h : wordL w s = some r) : s.length = w.length + r.length := by
  unfold wordL at h
  split at h
  · rename_i hp
    injection h with h
    have := (List.isPrefixOf_iff_prefix.1 hp).length_le
    rw [← h, List.length_drop]
    omega
  · cases h
theorem to_len {w : Bt} : ∀ {s a r : Bt}, toL w s = some (a, r) → s.length = a.length + w.length + r.length
  | [], a, r, h => by cases h
  | c :: s, a, r, h => by
    unfold toL at h
    split at h
    · rename_i hp
      injection h with h
      injection h with h1 h2
      have := (List.isPrefixOf_iff_prefix.1 hp).length_le
      rw [← h1, ← h2, List.length_drop]
      simp only [List.length_nil]
      omega
    · cases ht : toL w s with
      | none => rw [ht] at h; cases h
      | some x =>
        rw [ht] at h
        injection h with h
        injection h with h1 h2
        have := to_len ht
        rw [← h1, ← h2]
        simp only [List.length_cons]
        omega
theorem rem_len {s r : Bt} (h : remL s = some r) : r.length < s.length := by
  unfold remL at h
  cases ht : toL [45, 45] s with
  | none => rw [ht] at h; cases h
  | some x =>
    obtain ⟨a, b⟩ := x
    rw [ht] at h
    have h1 := to_len ht
    have h2 := word_len h
    simp only [List.length_cons, List.length_nil] at h1 h2
    omega
theorem ins_len {s r : Bt} (h : insL s = some r) : r.length < s.length := by
  unfold insL at h
  split at h
  · cases h
  · cases ht : toL [63, 62] (s.drop (nameW s)) with
    | none => rw [ht] at h; cases h
    | some x =>
      rw [ht] at h
      injection h with h
      have h1 := to_len ht
      rw [List.length_drop] at h1
      simp only [List.length_cons, List.length_nil] at h1
      simp only at h
      subst h
      omega
theorem aside_len {s r : Bt} (h : asideL s = some (some r)) : r.length < s.length := by
  unfold asideL at h
  cases h1 : wordL [60, 33, 45, 45] s with
  | some x =>
    simp only [h1] at h
    have := word_len h1
    simp only [List.length_cons, List.length_nil] at this
    cases h2 : remL x with
    | none => simp only [h2] at h; cases h
    | some y =>
      simp only [h2, Option.map_some] at h
      injection h with h
      injection h with h
      have := rem_len h2
      subst h
      omega
  | none =>
    simp only [h1] at h
    cases h3 : wordL [60, 63] s with
    | some x =>
      simp only [h3] at h
      have := word_len h3
      simp only [List.length_cons, List.length_nil] at this
      cases h2 : insL x with
      | none => simp only [h2] at h; cases h
      | some y =>
        simp only [h2, Option.map_some] at h
        injection h with h
        injection h with h
        have := ins_len h2
        subst h
        omega
    | none => simp only [h3] at h; cases h
theorem mark_len {s r : Bt} {m : XN} (h : markL s = some (m, r)) : r.length < s.length := by
  unfold markL at h
  split at h
  · cases h
  · rename_i h0
    have hl := nameW_le s
    cases h1 : wordL [58] (s.drop (nameW s)) with
    | none =>
      rw [h1] at h
      injection h with h
      injection h with _ h
      rw [← h, List.length_drop]
      omega
    | some x =>
      simp only [h1] at h
      split at h
      · cases h
      · injection h with h
        injection h with _ h
        have := word_len h1
        rw [List.length_drop] at this
        simp only [List.length_cons, List.length_nil] at this
        rw [← h, List.length_drop]
        omega
theorem value_len {s v r : Bt} (h : valueL s = some (v, r)) : r.length < s.length := by
  cases s with
  | nil => cases h
  | cons q t =>
    simp only [valueL] at h
    split at h
    · cases ht : toL [q] t with
      | none => rw [ht] at h; cases h
      | some x =>
        obtain ⟨a, b⟩ := x
        rw [ht] at h
        simp only at h
        split at h
        · cases h
        · cases hr : refsL (linesL a) with
          | none => rw [hr] at h; cases h
          | some y =>
            rw [hr] at h
            injection h with h
            injection h with _ h
            have := to_len ht
            rw [← h]
            simp only [List.length_cons, List.length_nil] at this ⊢
            omega
    · cases h
theorem attr_len {s r : Bt} {m : XM} (h : attrL s = some (m, r)) : r.length < s.length := by
  unfold attrL at h
  cases h1 : markL s with
  | none => rw [h1] at h; cases h
  | some x =>
    obtain ⟨m1, r1⟩ := x
    simp only [h1] at h
    have l1 := mark_len h1
    have b1 := blanks_le r1
    cases h2 : wordL [61] (blanksL r1) with
    | none => rw [h2] at h; cases h
    | some r2 =>
      simp only [h2] at h
      have l2 := word_len h2
      have b2 := blanks_le r2
      cases h3 : valueL (blanksL r2) with
      | none => rw [h3] at h; cases h
      | some y =>
        obtain ⟨v, r3⟩ := y
        rw [h3] at h
        injection h with h
        injection h with _ h
        have l3 := value_len h3
        simp only [List.length_cons, List.length_nil] at l2
        simp only at h
        subst h
        omega
theorem tagN_len : ∀ (n : Nat) {s r : Bt} {ms : List XM} {c : Bool}, tagN n s = some (ms, c, r) → r.length < s.length
  | 0, s, r, ms, c, h => by cases h
  | n + 1, s, r, ms, c, h => by
    unfold tagN at h
    have hb := blanks_le s
    cases h1 : wordL [47, 62] (blanksL s) with
    | some x =>
      rw [h1] at h
      have := word_len h1
      simp only [List.length_cons, List.length_nil] at this
      injection h with h
      injection h with _ h
      injection h with _ h
      subst h
      omega
    | none =>
      simp only [h1] at h
      cases h2 : wordL [62] (blanksL s) with
      | some x =>
        rw [h2] at h
        have := word_len h2
        simp only [List.length_cons, List.length_nil] at this
        injection h with h
        injection h with _ h
        injection h with _ h
        subst h
        omega
      | none =>
        simp only [h2] at h
        split at h
        · cases h
        · cases h3 : attrL (blanksL s) with
          | none => rw [h3] at h; cases h
          | some x =>
            obtain ⟨m, r1⟩ := x
            simp only [h3] at h
            have l1 := attr_len h3
            cases h4 : tagN n r1 with
            | none => rw [h4] at h; cases h
            | some y =>
              obtain ⟨a, b, r2⟩ := y
              rw [h4] at h
              injection h with h
              injection h with _ h
              injection h with _ h
              have := tagN_len n h4
              subst h
              omega
theorem tag_len {s r : Bt} {ms : List XM} {c : Bool} (h : tagL s = some (ms, c, r)) : r.length < s.length := tagN_len _ h
theorem drop_lt_len (s : Bt) : (s.dropWhile ltN).length ≤ s.length := (List.dropWhile_suffix _).length_le
theorem end_len {nm : XN} {s r : Bt} (h : endX nm s = some r) : r.length < s.length := by
  unfold endX at h
  cases h1 : wordL (writtenX nm) s with
  | none => rw [h1] at h; cases h
  | some x =>
    rw [h1] at h
    have l1 := word_len h1
    have l2 := word_len h
    have b := blanks_le x
    simp only [List.length_cons, List.length_nil] at l2
    omega
theorem text_len {s x r : Bt} (h0 : wordL [60] s = none) (h : textL s = some (x, r)) : r.length < s.length := by
  unfold textL at h
  split at h
  · cases h
  · rename_i hn
    cases h1 : refsL (linesL (s.takeWhile ltN)) with
    | none => rw [h1] at h; cases h
    | some y =>
      rw [h1] at h
      injection h with h
      injection h with _ h
      subst h
      cases s with
      | nil => exact absurd (.inr rfl) hn
      | cons c t =>
        have hc : ltN c = true := by
          unfold ltN
          cases hcc : c == 60 with
          | false => rfl
          | true =>
            rw [beq_iff_eq] at hcc
            subst hcc
            rw [wordL, if_pos (by simp [List.isPrefixOf])] at h0
            cases h0
        rw [List.dropWhile_cons_of_pos hc]
        have := drop_lt_len t
        simp only [List.length_cons]
        omega
end Go.Proofs.YtklcjimmbkpbdaaGreatDoor
namespace Go.Proofs.YtklcjimmbkpbdaaGreatDoor
open Go.Lib

theorem aroundN_fuel : ∀ (n m : Nat) (s : Bt), s.length < n → s.length < m → aroundN n s = aroundN m s
  | 0, _, s, h, _ => absurd h (Nat.not_lt_zero _)
  | _ + 1, 0, s, _, h => absurd h (Nat.not_lt_zero _)
  | n + 1, m + 1, s, h1, h2 => by
    have hb := blanks_le s
    unfold aroundN
    cases ha : asideL (blanksL s) with
    | none => rfl
    | some o =>
      cases o with
      | none => rfl
      | some r =>
        have := aside_len ha
        exact aroundN_fuel n m r (by omega) (by omega)
theorem aroundL_eq (s : Bt) : aroundL s = match asideL (blanksL s) with | none => none | some none => some (blanksL s) | some (some r) => aroundL r := by
  have hb := blanks_le s
  show aroundN (s.length + 1) s = _
  unfold aroundN
  cases ha : asideL (blanksL s) with
  | none => rfl
  | some o =>
    cases o with
    | none => rfl
    | some r =>
      have := aside_len ha
      exact aroundN_fuel _ _ r (by omega) (by omega)
theorem refsN_fuel : ∀ (n m : Nat) (l : Bt), l.length ≤ n → l.length ≤ m → refsN n l = refsN m l
  | 0, 0, _, _, _ => rfl
  | 0, m + 1, l, h, _ => by
    have : l = [] := List.eq_nil_of_length_eq_zero (by omega)
    subst this; rfl
  | n + 1, 0, l, _, h => by
    have : l = [] := List.eq_nil_of_length_eq_zero (by omega)
    subst this; rfl
  | n + 1, m + 1, [], _, _ => rfl
  | n + 1, m + 1, c :: r, h1, h2 => by
    simp only [List.length_cons] at h1 h2
    unfold refsN
    rw [refsN_fuel n m r (by omega) (by omega), refsN_fuel n m (r.drop ((refQ r).2 - 1)) (by rw [List.length_drop]; omega) (by rw [List.length_drop]; omega)]
theorem refsL_nil : refsL [] = some [] := rfl
theorem refsL_cons (c : UInt8) (r : Bt) : refsL (c :: r) = if c = 38 then (if (refQ r).2 = 0 ∨ inXml (refQ r).1 = false then none else (refsL (r.drop ((refQ r).2 - 1))).map (encodeRune (refQ r).1 ++ ·)) else (refsL r).map (c :: ·) := by
  unfold refsL
  show refsN (r.length + 1) (c :: r) = _
  rw [refsN]
  rw [refsN_fuel r.length (r.drop ((refQ r).2 - 1)).length _ (by rw [List.length_drop]; omega) (Nat.le_refl _)]
theorem refs_pass (r : Bt) : ∀ a : Bt, (38 : UInt8) ∉ a → refsL (a ++ r) = (refsL r).map (a ++ ·)
  | [], _ => by simp
  | c :: a, h => by
    rw [List.cons_append, refsL_cons, if_neg (fun e : c = 38 => h (by rw [e]; exact List.mem_cons_self)), refs_pass r a (fun e => h (List.mem_cons_of_mem _ e)), Option.map_map]
    rfl
theorem refs_bad (r : Bt) (h : (refQ r).2 = 0 ∨ inXml (refQ r).1 = false) : refsL (38 :: r) = none := by rw [refsL_cons, if_pos rfl, if_pos h]
theorem refs_good (r : Bt) (h : ¬ ((refQ r).2 = 0 ∨ inXml (refQ r).1 = false)) : refsL (38 :: r) = (refsL (r.drop ((refQ r).2 - 1))).map (encodeRune (refQ r).1 ++ ·) := by rw [refsL_cons, if_pos rfl, if_neg h]
theorem tagN_fuel : ∀ (n m : Nat) (s : Bt), s.length < n → s.length < m → tagN n s = tagN m s
  | 0, _, s, h, _ => absurd h (Nat.not_lt_zero _)
  | _ + 1, 0, s, _, h => absurd h (Nat.not_lt_zero _)
  | n + 1, m + 1, s, h1, h2 => by
    have hb := blanks_le s
    unfold tagN
    cases wordL [47, 62] (blanksL s) with
    | some r => rfl
    | none =>
      cases wordL [62] (blanksL s) with
      | some r => rfl
      | none =>
        simp only
        split
        · rfl
        · cases ha : attrL (blanksL s) with
          | none => rfl
          | some x =>
            obtain ⟨a, r⟩ := x
            have := attr_len ha
            simp only
            rw [tagN_fuel n m r (by omega) (by omega)]
theorem tagL_eq (s : Bt) : tagL s = match wordL [47, 62] (blanksL s) with
    | some r => some ([], true, r)
    | none => match wordL [62] (blanksL s) with
      | some r => some ([], false, r)
      | none => if (blanksL s).length = s.length then none else
        match attrL (blanksL s) with
        | none => none
        | some (m, r) => (tagL r).map fun x => (m :: x.1, x.2) := by
  have hb := blanks_le s
  show tagN (s.length + 1) s = _
  unfold tagN
  cases wordL [47, 62] (blanksL s) with
  | some r => rfl
  | none =>
    cases wordL [62] (blanksL s) with
    | some r => rfl
    | none =>
      simp only
      split
      · rfl
      · cases ha : attrL (blanksL s) with
        | none => rfl
        | some x =>
          obtain ⟨a, r⟩ := x
          have := attr_len ha
          simp only
          rw [tagN_fuel s.length (r.length + 1) r (by omega) (by omega)]
          rfl
theorem kidsN_len : ∀ (n : Nat), (∀ {d : Nat} {sc : XS} {s r : Bt} {v : XV}, elemN n d sc s = .ok (v, r) → r.length < s.length) ∧ (∀ {d : Nat} {sc : XS} {s r : Bt} {ks l : List XV} {t : Bt}, kidsN n d sc s ks t = .ok (l, r) → r.length < s.length)
  | 0 => ⟨fun h => (by rw [elemN] at h; cases h), fun h => (by rw [kidsN] at h; cases h)⟩
  | n + 1 => by
    obtain ⟨ihE, ihK⟩ := kidsN_len n
    constructor
    · intro d sc s r v h
      rw [elemN] at h
      cases h1 : markL s with
      | none => simp only [h1] at h; cases h
      | some x =>
        obtain ⟨nm, s1⟩ := x
        simp only [h1] at h
        have l1 := mark_len h1
        cases h2 : tagL s1 with
        | none => simp only [h2] at h; cases h
        | some y =>
          obtain ⟨ms, c, s2⟩ := y
          simp only [h2] at h
          have l2 := tag_len h2
          cases h3 : startX sc nm ms with
          | none => simp only [h3] at h; cases h
          | some z =>
            obtain ⟨v0, sc'⟩ := z
            simp only [h3] at h
            split at h
            · cases h
            · split at h
              · injection h with h
                injection h with _ h
                subst h
                omega
              · cases h4 : kidsN n (d + 1) sc' s2 [] [] with
                | error e => simp only [h4] at h; cases h
                | ok u =>
                  obtain ⟨ks, s3⟩ := u
                  simp only [h4] at h
                  have l3 := ihK h4
                  cases h5 : endX nm s3 with
                  | none => simp only [h5] at h; cases h
                  | some s4 =>
                    simp only [h5] at h
                    have l4 := end_len h5
                    injection h with h
                    injection h with _ h
                    subst h
                    omega
    · intro d sc s r ks l t h
      rw [kidsN] at h
      cases h1 : wordL [60, 47] s with
      | some x =>
        simp only [h1] at h
        have l1 := word_len h1
        simp only [List.length_cons, List.length_nil] at l1
        injection h with h
        injection h with _ h
        subst h
        omega
      | none =>
        simp only [h1] at h
        cases h2 : wordL cdataW s with
        | some x =>
          simp only [h2] at h
          have l2 := word_len h2
          cases h3 : toL cdendW x with
          | none => simp only [h3] at h; cases h
          | some y =>
            obtain ⟨a, r'⟩ := y
            simp only [h3] at h
            have l3 := to_len h3
            have := ihK h
            omega
        | none =>
          simp only [h2] at h
          cases h3 : asideL s with
          | none => simp only [h3] at h; cases h
          | some o =>
            cases o with
            | some x =>
              simp only [h3] at h
              have := aside_len h3
              have := ihK h
              omega
            | none =>
              simp only [h3] at h
              cases h4 : wordL [60] s with
              | some x =>
                simp only [h4] at h
                have l4 := word_len h4
                cases h5 : elemN n d sc x with
                | error e => simp only [h5] at h; cases h
                | ok y =>
                  obtain ⟨v, r'⟩ := y
                  simp only [h5] at h
                  have := ihE h5
                  have := ihK h
                  omega
              | none =>
                simp only [h4] at h
                cases h5 : textL s with
                | none => simp only [h5] at h; cases h
                | some y =>
                  obtain ⟨x, r'⟩ := y
                  simp only [h5] at h
                  have := text_len h4 h5
                  have := ihK h
                  omega
theorem elem_len {n d : Nat} {sc : XS} {s r : Bt} {v : XV} (h : elemN n d sc s = .ok (v, r)) : r.length < s.length := (kidsN_len n).1 h
theorem kids_len {n d : Nat} {sc : XS} {s r : Bt} {ks l : List XV} {t : Bt} (h : kidsN n d sc s ks t = .ok (l, r)) : r.length < s.length := (kidsN_len n).2 h
theorem kidsN_fuel : ∀ (n m : Nat), (∀ (d : Nat) (sc : XS) (s : Bt), s.length < n → s.length < m → elemN n d sc s = elemN m d sc s) ∧ (∀ (d : Nat) (sc : XS) (s : Bt) (ks : List XV) (t : Bt), s.length < n → s.length < m → kidsN n d sc s ks t = kidsN m d sc s ks t)
  | 0, _ => ⟨fun _ _ _ h _ => absurd h (Nat.not_lt_zero _), fun _ _ _ _ _ h _ => absurd h (Nat.not_lt_zero _)⟩
  | _ + 1, 0 => ⟨fun _ _ _ _ h => absurd h (Nat.not_lt_zero _), fun _ _ _ _ _ _ h => absurd h (Nat.not_lt_zero _)⟩
  | n + 1, m + 1 => by
    obtain ⟨ihE, ihK⟩ := kidsN_fuel n m
    constructor
    · intro d sc s hn hm
      rw [elemN, elemN]
      cases h1 : markL s with
      | none => rfl
      | some x =>
        obtain ⟨nm, s1⟩ := x
        simp only
        have l1 := mark_len h1
        cases h2 : tagL s1 with
        | none => rfl
        | some y =>
          obtain ⟨ms, c, s2⟩ := y
          simp only
          have l2 := tag_len h2
          have hk : ∀ sc', kidsN n (d + 1) sc' s2 [] [] = kidsN m (d + 1) sc' s2 [] [] := fun sc' => ihK (d + 1) sc' s2 [] [] (by omega) (by omega)
          simp only [hk]
    · intro d sc s ks t hn hm
      rw [kidsN, kidsN]
      cases h1 : wordL [60, 47] s with
      | some x => rfl
      | none =>
        simp only
        cases h2 : wordL cdataW s with
        | some x =>
          simp only
          have l2 := word_len h2
          cases h3 : toL cdendW x with
          | none => rfl
          | some y =>
            obtain ⟨a, r'⟩ := y
            simp only
            have l3 := to_len h3
            have lc : cdendW.length = 3 := rfl
            exact ihK _ _ _ _ _ (by omega) (by omega)
        | none =>
          simp only
          cases h3 : asideL s with
          | none => rfl
          | some o =>
            cases o with
            | some x =>
              simp only
              have := aside_len h3
              exact ihK _ _ _ _ _ (by omega) (by omega)
            | none =>
              simp only
              cases h4 : wordL [60] s with
              | some x =>
                simp only
                have l4 := word_len h4
                simp only [List.length_cons, List.length_nil] at l4
                rw [ihE d sc x (by omega) (by omega)]
                cases h5 : elemN m d sc x with
                | error e => rfl
                | ok y =>
                  obtain ⟨v, r'⟩ := y
                  simp only
                  have := elem_len h5
                  exact ihK _ _ _ _ _ (by omega) (by omega)
              | none =>
                simp only
                cases h5 : textL s with
                | none => rfl
                | some y =>
                  obtain ⟨x, r'⟩ := y
                  simp only
                  have := text_len h4 h5
                  exact ihK _ _ _ _ _ (by omega) (by omega)
theorem elemX_eq (d : Nat) (sc : XS) (s : Bt) : elemX d sc s = match markL s with
   | none => .error 70
   | some (nm, s1) => match tagL s1 with
      | none => .error 70
      | some (ms, closed, s2) => match startX sc nm ms with
        | none => .error 70
        | some (v, sc') => if d = 24 then .error 71 else if closed = true then .ok (v, s2) else
          match kidsX (d + 1) sc' s2 [] [] with
          | .error e => .error e
          | .ok (ks, s3) => match endX nm s3 with
            | none => .error 70
            | some s4 => .ok (v.withKids ks, s4) := by
  show elemN (s.length + 1) d sc s = _
  rw [elemN]
  cases h1 : markL s with
  | none => rfl
  | some x =>
    obtain ⟨nm, s1⟩ := x
    simp only
    have l1 := mark_len h1
    cases h2 : tagL s1 with
    | none => rfl
    | some y =>
      obtain ⟨ms, c, s2⟩ := y
      simp only
      have l2 := tag_len h2
      have hk : ∀ sc', kidsN s.length (d + 1) sc' s2 [] [] = kidsX (d + 1) sc' s2 [] [] := fun sc' => (kidsN_fuel s.length (s2.length + 1)).2 (d + 1) sc' s2 [] [] (by omega) (by omega)
      simp only [hk] <;> rfl
theorem kidsX_eq (d : Nat) (sc : XS) (s : Bt) (ks : List XV) (t : Bt) : kidsX d sc s ks t = match wordL [60, 47] s with
    | some r => .ok (allX ks t, r)
    | none => match wordL cdataW s with
      | some r => (match toL cdendW r with
        | none => .error 70
        | some (a, r') => kidsX d sc r' ks (t ++ linesL a))
      | none => match asideL s with
        | none => .error 70
        | some (some r) => kidsX d sc r ks t
        | some none => match wordL [60] s with
          | some r => (match elemX d sc r with
            | .error e => .error e
            | .ok (v, r') => kidsX d sc r' (allX ks t ++ [v]) [])
          | none => match textL s with
            | none => .error 70
            | some (x, r) => kidsX d sc r ks (t ++ x) := by
  show kidsN (s.length + 1) d sc s ks t = _
  rw [kidsN]
  cases h1 : wordL [60, 47] s with
  | some x => rfl
  | none =>
    simp only
    cases h2 : wordL cdataW s with
    | some x =>
      simp only
      have l2 := word_len h2
      cases h3 : toL cdendW x with
      | none => rfl
      | some y =>
        obtain ⟨a, r'⟩ := y
        simp only
        have l3 := to_len h3
        have lc : cdendW.length = 3 := rfl
        exact (kidsN_fuel _ _).2 _ _ _ _ _ (by omega) (by omega)
    | none =>
      simp only
      cases h3 : asideL s with
      | none => rfl
      | some o =>
        cases o with
        | some x =>
          simp only
          have := aside_len h3
          exact (kidsN_fuel _ _).2 _ _ _ _ _ (by omega) (by omega)
        | none =>
          simp only
          cases h4 : wordL [60] s with
          | some x =>
            simp only
            have l4 := word_len h4
            simp only [List.length_cons, List.length_nil] at l4
            rw [(kidsN_fuel s.length (x.length + 1)).1 d sc x (by omega) (by omega)]
            have he : elemN (x.length + 1) d sc x = elemX d sc x := rfl
            rw [he]
            cases h5 : elemX d sc x with
            | error e => rfl
            | ok y =>
              obtain ⟨v, r'⟩ := y
              simp only
              have := elem_len h5
              exact (kidsN_fuel _ _).2 _ _ _ _ _ (by omega) (by omega)
          | none =>
            simp only
            cases h5 : textL s with
            | none => rfl
            | some y =>
              obtain ⟨x, r'⟩ := y
              simp only
              have := text_len h4 h5
              exact (kidsN_fuel _ _).2 _ _ _ _ _ (by omega) (by omega)
theorem elemX_len {d : Nat} {sc : XS} {s r : Bt} {v : XV} (h : elemX d sc s = .ok (v, r)) : r.length < s.length := elem_len h
theorem kidsX_len {d : Nat} {sc : XS} {s r : Bt} {ks l : List XV} {t : Bt} (h : kidsX d sc s ks t = .ok (l, r)) : r.length < s.length := kids_len h
end Go.Proofs.YtklcjimmbkpbdaaGreatDoor
namespace Go.Proofs.YtklcjimmbkpbdaaGreatDoor
open Go.Lib

/-- Code points that XML has, as bytes. -/
def PT (s : Bt) : Prop := ∃ zs, AllPt zs ∧ (∀ z ∈ zs, inXml z = true) ∧ s = enc zs
theorem plain_iff (s : Bt) : plainB s = true ↔ PT s := by
  unfold plainB
  rw [beq_iff_eq]
  constructor
  · intro h
    exact ⟨(pts s).filter inXml, fun p hp => pts_allPt s p (List.mem_filter.1 hp).1, fun z hz => (List.mem_filter.1 hz).2, h.symm⟩
  · rintro ⟨zs, h1, h2, rfl⟩
    rw [pts_enc' zs h1, List.filter_eq_self.2 h2]
theorem PT.nil : PT [] := ⟨[], fun _ h => absurd h List.not_mem_nil, fun _ h => absurd h List.not_mem_nil, rfl⟩
theorem PT.append {a b : Bt} (ha : PT a) (hb : PT b) : PT (a ++ b) := by
  obtain ⟨x, h1, h2, rfl⟩ := ha
  obtain ⟨y, h3, h4, rfl⟩ := hb
  refine ⟨x ++ y, fun p hp => ?_, fun p hp => ?_, (enc_append x y).symm⟩
  · rcases List.mem_append.1 hp with h | h
    · exact h1 p h
    · exact h3 p h
  · rcases List.mem_append.1 hp with h | h
    · exact h2 p h
    · exact h4 p h
theorem PT.of {zs : List Int} (h1 : AllPt zs) (h2 : ∀ z ∈ zs, inXml z = true) : PT (enc zs) := ⟨zs, h1, h2, rfl⟩
theorem PT.ascii {l : Bt} (h : l.all (fun c => decide (32 ≤ c.toNat ∧ c.toNat < 128) || c == 9 || c == 10 || c == 13) = true) : PT l := by
  have h' := List.all_eq_true.1 h
  have hb : ∀ c ∈ l, c.toNat < 128 := fun c hc => by
    have := h' c hc
    simp only [Bool.or_eq_true, decide_eq_true_eq, beq_iff_eq] at this
    rcases this with ((h1 | h1) | h1) | h1
    · omega
    all_goals subst h1; decide
  have he : ∀ l : Bt, (∀ c ∈ l, c.toNat < 128) → enc (l.map fun c => (c.toNat : Int)) = l := by
    intro l
    induction l with
    | nil => intro _; rfl
    | cons c l ih =>
      intro hl
      have hc := hl c List.mem_cons_self
      rw [List.map_cons, enc_cons, encodeRune_ascii _ (by omega) (by omega), ih (fun d hd => hl d (List.mem_cons_of_mem _ hd)), Int.toNat_natCast]
      simp
  rw [← he l hb]
  refine PT.of (fun p hp => ?_) (fun p hp => ?_)
  · obtain ⟨c, hc, rfl⟩ := List.mem_map.1 hp
    have := hb c hc
    rw [isPt_iff]
    omega
  · obtain ⟨c, hc, rfl⟩ := List.mem_map.1 hp
    have := h' c hc
    simp only [Bool.or_eq_true, decide_eq_true_eq, beq_iff_eq] at this
    unfold inXml
    rw [decide_eq_true_eq]
    rcases this with ((h1 | h1) | h1) | h1
    · omega
    all_goals subst h1; decide
/-! ### What is right -/
def openB (s : Bt) : Bool := plainB s && !(s.contains 13)
def rightNameB (s : Bt) : Bool := isNameL s && openB s
def rightAttrB (a : XA) : Bool := a.1 == [] && !(a.2.1 == xmlnsW) && rightNameB a.2.1 && openB a.2.2
def rightAttrsB (l : List XA) : Bool := l.all rightAttrB && decide (l.map (·.2.1)).Nodup
def rightTextB (k : XV) : Bool := !(k.text == []) && openB k.text && k.space == [] && k.attrs.isEmpty && k.kids.isEmpty
def rightKidsB (f : XV → Bool) : Bool → List XV → Bool
  | _, [] => true
  | prev, k :: l => (if k.name = [] then rightTextB k && !prev else f k) && rightKidsB f (k.name == []) l
def rightX : Nat → XV → Bool
  | 0, _ => false
  | n + 1, v => rightNameB v.name && openB v.space && v.text == [] && rightAttrsB v.attrs && rightKidsB (rightX n) false v.kids
/-! ### What is written -/
def htmlB (t : Bt) : Bt := enc (html ((pts t).filter inXml))
def attrC (c : UInt8) : Bt := if c = 10 then [38, 35, 49, 48, 59] else if c = 9 then [38, 35, 57, 59] else [c]
def attrV (l : Bt) : Bt := l.flatMap attrC
def attrP (nm v : Bt) : Bt := 32 :: nm ++ [61, 34] ++ attrV (htmlB v) ++ [34]
def attrsP (l : List XA) : Bt := l.flatMap fun a => attrP a.2.1 a.2.2
mutual
def printX : XV → Bt → Bt
  | .mk sp nm as ks tx, ar => if nm = [] then htmlB tx else 60 :: nm ++ (if sp = ar then [] else attrP xmlnsW sp) ++ attrsP as ++ (if ks.isEmpty = true then [47, 62] else 62 :: printsX ks sp ++ [60, 47] ++ nm ++ [62])
def printsX : List XV → Bt → Bt
  | [], _ => []
  | k :: l, sp => printX k sp ++ printsX l sp
end
/-! ### Texts come back -/
theorem open_pts {t : Bt} (h : openB t = true) : ∃ zs, AllPt zs ∧ (∀ z ∈ zs, inXml z = true) ∧ t = enc zs ∧ 13 ∉ zs := by
  unfold openB at h
  rw [Bool.and_eq_true] at h
  obtain ⟨zs, h1, h2, h3⟩ := (plain_iff t).1 h.1
  refine ⟨zs, h1, h2, h3, fun hm => ?_⟩
  have h4 := h.2
  have : (13 : UInt8) ∈ t := by
    rw [h3]
    exact List.mem_flatMap.2 ⟨13, hm, by decide⟩
  rw [Bool.not_eq_true', List.contains_eq_mem, decide_eq_false_iff_not] at h4
  exact h4 this
theorem html_of {zs : List Int} (h1 : AllPt zs) (h2 : ∀ z ∈ zs, inXml z = true) : htmlB (enc zs) = enc (html zs) := by
  unfold htmlB
  rw [pts_enc' zs h1, List.filter_eq_self.2 h2]
def hA (p : Int) : List Int := if p = 10 then [38, 35, 49, 48, 59] else if p = 9 then [38, 35, 57, 59] else hP p
theorem attrV_append (a b : Bt) : attrV (a ++ b) = attrV a ++ attrV b := by simp [attrV]
theorem attrV_id (l : Bt) (h : ∀ c ∈ l, c ≠ 10 ∧ c ≠ 9) : attrV l = l := by
  induction l with
  | nil => rfl
  | cons c l ih =>
    have hc := h c List.mem_cons_self
    rw [show attrV (c :: l) = attrC c ++ attrV l from rfl, ih (fun d hd => h d (List.mem_cons_of_mem _ hd))]
    unfold attrC
    rw [if_neg hc.1, if_neg hc.2]
    rfl
theorem attrV_hP (p : Int) (hp : isPt p = true) : attrV (enc (hP p)) = enc (hA p) := by
  unfold hA
  by_cases h10 : p = 10
  · subst h10; decide
  by_cases h9 : p = 9
  · subst h9; decide
  rw [if_neg h10, if_neg h9]
  apply attrV_id
  intro c hc
  have hall := hP_pt p hp
  have key : ∀ k : UInt8, k.toNat < 128 → (k = 10 ∨ k = 9) → c ≠ k := by
    intro k hk hk2 e
    subst e
    have hm := enc_mem (hP p) hall c hc hk
    have : (c.toNat : Int) = p ∨ 34 < (c.toNat : Int) := by
      unfold hP at hm
      repeat' split at hm
      all_goals simp only [List.mem_cons, List.not_mem_nil, or_false] at hm
      all_goals omega
    rcases hk2 with rfl | rfl
    · rcases this with h | h
      · exact h10 h.symm
      · exact absurd h (by decide)
    · rcases this with h | h
      · exact h9 h.symm
      · exact absurd h (by decide)
  exact ⟨key 10 (by decide) (.inl rfl), key 9 (by decide) (.inr rfl)⟩
theorem attrV_html : ∀ (l : List Int), AllPt l → attrV (enc (html l)) = enc (l.flatMap hA)
  | [], _ => rfl
  | p :: l, h => by
    rw [html_cons, enc_append, attrV_append, attrV_hP p (h p List.mem_cons_self), attrV_html l (fun q hq => h q (List.mem_cons_of_mem _ hq)), List.flatMap_cons, enc_append]
theorem refs_name (nm r : Bt) (p : Int) (h59 : (59 : UInt8) ∉ nm) (hn : nameP nm = p) (hp : p ≠ -1) (hx : inXml p = true) : refsL (38 :: (nm ++ 59 :: r)) = (refsL r).map (encodeRune p ++ ·) := by
  have q := refQ_name nm r h59
  rw [hn, if_neg hp] at q
  rw [refs_good _ (by rw [q]; rintro (h | h); · cases h
                      · rw [hx] at h; cases h), q]
  have : (nm ++ 59 :: r).drop (nm.length + 2 - 1) = r := by
    rw [show nm.length + 2 - 1 = nm.length + 1 by omega, List.drop_append]
    simp
  rw [this]
theorem refs_hA (p : Int) (hp : isPt p = true) (hx : inXml p = true) (r : Bt) : refsL (enc (hA p) ++ r) = (refsL r).map (encodeRune p ++ ·) := by
  unfold hA hP
  split
  · subst p
    have e : enc [38, 35, 49, 48, 59] = 38 :: ([35, 49, 48] ++ [59]) := by decide
    rw [e]
    exact refs_name [35, 49, 48] r 10 (by decide) (by decide) (by decide) hx
  split
  · subst p
    have e : enc [38, 35, 57, 59] = 38 :: ([35, 57] ++ [59]) := by decide
    rw [e]
    exact refs_name [35, 57] r 9 (by decide) (by decide) (by decide) hx
  split
  · subst p
    have e : enc [38, 97, 109, 112, 59] = 38 :: ([97, 109, 112] ++ [59]) := by decide
    rw [e]
    exact refs_name [97, 109, 112] r 38 (by decide) (by decide) (by decide) hx
  split
  · subst p
    have e : enc [38, 108, 116, 59] = 38 :: ([108, 116] ++ [59]) := by decide
    rw [e]
    exact refs_name [108, 116] r 60 (by decide) (by decide) (by decide) hx
  split
  · subst p
    have e : enc [38, 103, 116, 59] = 38 :: ([103, 116] ++ [59]) := by decide
    rw [e]
    exact refs_name [103, 116] r 62 (by decide) (by decide) (by decide) hx
  split
  · subst p
    have e : enc [38, 113, 117, 111, 116, 59] = 38 :: ([113, 117, 111, 116] ++ [59]) := by decide
    rw [e]
    exact refs_name [113, 117, 111, 116] r 34 (by decide) (by decide) (by decide) hx
  split
  · subst p
    have e : enc [38, 35, 51, 57, 59] = 38 :: ([35, 51, 57] ++ [59]) := by decide
    rw [e]
    exact refs_name [35, 51, 57] r 39 (by decide) (by decide) (by decide) hx
  · have e : enc [p] = encodeRune p := by simp [enc]
    rw [e, refs_pass]
    intro hc
    have := encodeRune_mem p hp 38 hc (by decide)
    have : p = 38 := this
    contradiction
theorem refs_hP (p : Int) (hp : isPt p = true) (hx : inXml p = true) (r : Bt) : refsL (enc (hP p) ++ r) = (refsL r).map (encodeRune p ++ ·) := by
  by_cases h10 : p = 10
  · subst h10
    have e : enc (hP 10) = [10] := by decide
    rw [e]
    exact refs_pass r [10] (by decide)
  by_cases h9 : p = 9
  · subst h9
    have e : enc (hP 9) = [9] := by decide
    rw [e]
    exact refs_pass r [9] (by decide)
  have := refs_hA p hp hx r
  unfold hA at this
  rw [if_neg h10, if_neg h9] at this
  exact this
theorem refs_flat {f : Int → List Int} (hf : ∀ (p : Int), isPt p = true → inXml p = true → ∀ r, refsL (enc (f p) ++ r) = (refsL r).map (encodeRune p ++ ·)) : ∀ (l : List Int), AllPt l → (∀ z ∈ l, inXml z = true) → refsL (enc (l.flatMap f)) = some (enc l)
  | [], _, _ => rfl
  | p :: l, h, hx => by
    rw [List.flatMap_cons, enc_append, hf p (h p List.mem_cons_self) (hx p List.mem_cons_self), refs_flat hf l (fun q hq => h q (List.mem_cons_of_mem _ hq)) (fun q hq => hx q (List.mem_cons_of_mem _ hq)), enc_cons]
    rfl
theorem lines_id : ∀ (l : Bt), (13 : UInt8) ∉ l → linesL l = l
  | [], _ => rfl
  | c :: l, h => by
    have hc : c ≠ 13 := fun e => h (by rw [e]; exact List.mem_cons_self)
    rw [linesL, if_neg hc, lines_id l (fun e => h (List.mem_cons_of_mem _ e))]
theorem hA_mem (p q : Int) (h : q ∈ hA p) : q = p ∧ p ≠ 10 ∧ p ≠ 9 ∧ p ≠ 34 ∧ p ≠ 60 ∧ p ≠ 62 ∨ (35 ≤ q ∧ q ≠ 60 ∧ q ≠ 62) := by
  unfold hA hP at h
  repeat' split at h
  all_goals simp only [List.mem_cons, List.not_mem_nil, or_false] at h
  all_goals omega
theorem hP_mem (p q : Int) (h : q ∈ hP p) : q = p ∧ p ≠ 34 ∧ p ≠ 60 ∧ p ≠ 62 ∨ (35 ≤ q ∧ q ≠ 60 ∧ q ≠ 62) := by
  unfold hP at h
  repeat' split at h
  all_goals simp only [List.mem_cons, List.not_mem_nil, or_false] at h
  all_goals omega
theorem hA_pt (p : Int) (h : isPt p = true) : AllPt (hA p) := by
  unfold hA
  split
  · intro q hq
    simp only [List.mem_cons, List.not_mem_nil, or_false] at hq
    rcases hq with rfl | rfl | rfl | rfl | rfl <;> decide
  split
  · intro q hq
    simp only [List.mem_cons, List.not_mem_nil, or_false] at hq
    rcases hq with rfl | rfl | rfl | rfl <;> decide
  · exact hP_pt p h
theorem hA_xml (p : Int) (h : inXml p = true) : ∀ q ∈ hA p, inXml q = true := by
  unfold hA
  split
  · intro q hq
    simp only [List.mem_cons, List.not_mem_nil, or_false] at hq
    rcases hq with rfl | rfl | rfl | rfl | rfl <;> decide
  split
  · intro q hq
    simp only [List.mem_cons, List.not_mem_nil, or_false] at hq
    rcases hq with rfl | rfl | rfl | rfl <;> decide
  · exact hP_xml p h
theorem flat_xml {f : Int → List Int} (h : ∀ p, inXml p = true → ∀ q ∈ f p, inXml q = true) {l : List Int} (hl : ∀ z ∈ l, inXml z = true) : ∀ q ∈ l.flatMap f, inXml q = true := by
  intro q hq
  obtain ⟨p, hp, hq⟩ := List.mem_flatMap.1 hq
  exact h p (hl p hp) q hq
/-- A text that is written: what stands in it, and that it comes back. -/
theorem html_back {t : Bt} (h : openB t = true) : refsL (linesL (htmlB t)) = some t ∧ (∀ c ∈ htmlB t, c ≠ 60 ∧ c ≠ 62 ∧ c ≠ 34 ∧ c ≠ 13) ∧ PT (htmlB t) := by
  obtain ⟨zs, h1, h2, rfl, h13⟩ := open_pts h
  rw [html_of h1 h2]
  have hmem : ∀ c ∈ enc (html zs), c ≠ 60 ∧ c ≠ 62 ∧ c ≠ 34 ∧ c ≠ 13 := by
    intro c hc
    have key : ∀ k : UInt8, k.toNat < 128 → ((k.toNat : Int) = 60 ∨ (k.toNat : Int) = 62 ∨ (k.toNat : Int) = 34 ∨ (k.toNat : Int) = 13) → c ≠ k := by
      intro k hk hk2 e
      subst e
      have hm := enc_mem (html zs) (html_pt h1) c hc hk
      obtain ⟨p, hp, hq⟩ := List.mem_flatMap.1 hm
      have := hP_mem p _ hq
      have hne : p ≠ 13 := fun e => h13 (e ▸ hp)
      omega
    exact ⟨key 60 (by decide) (by decide), key 62 (by decide) (by decide), key 34 (by decide) (by decide), key 13 (by decide) (by decide)⟩
  refine ⟨?_, hmem, PT.of (html_pt h1) (flat_xml hP_xml h2)⟩
  rw [lines_id _ (fun hm => (hmem 13 hm).2.2.2 rfl)]
  exact refs_flat refs_hP zs h1 h2
theorem attr_back {t : Bt} (h : openB t = true) : refsL (linesL (attrV (htmlB t))) = some t ∧ (∀ c ∈ attrV (htmlB t), c ≠ 60 ∧ c ≠ 34) ∧ PT (attrV (htmlB t)) := by
  obtain ⟨zs, h1, h2, rfl, h13⟩ := open_pts h
  rw [html_of h1 h2, attrV_html zs h1]
  have hmem : ∀ c ∈ enc (zs.flatMap hA), c ≠ 60 ∧ c ≠ 34 ∧ c ≠ 13 := by
    intro c hc
    have key : ∀ k : UInt8, k.toNat < 128 → ((k.toNat : Int) = 60 ∨ (k.toNat : Int) = 34 ∨ (k.toNat : Int) = 13) → c ≠ k := by
      intro k hk hk2 e
      subst e
      have hm := enc_mem (zs.flatMap hA) (flat_pt hA_pt h1) c hc hk
      obtain ⟨p, hp, hq⟩ := List.mem_flatMap.1 hm
      have := hA_mem p _ hq
      have hne : p ≠ 13 := fun e => h13 (e ▸ hp)
      omega
    exact ⟨key 60 (by decide) (by decide), key 34 (by decide) (by decide), key 13 (by decide) (by decide)⟩
  refine ⟨?_, fun c hc => ⟨(hmem c hc).1, (hmem c hc).2.1⟩, PT.of (flat_pt hA_pt h1) (flat_xml hA_xml h2)⟩
  rw [lines_id _ (fun hm => (hmem 13 hm).2.2 rfl)]
  exact refs_flat refs_hA zs h1 h2
theorem enc_ne {zs : List Int} (h : zs ≠ []) : enc zs ≠ [] := by
  cases zs with
  | nil => exact absurd rfl h
  | cons p l =>
    rw [enc_cons]
    exact encodeRune_ne p _
theorem html_ne {t : Bt} (h : openB t = true) (ht : t ≠ []) : htmlB t ≠ [] := by
  obtain ⟨zs, h1, h2, rfl, _⟩ := open_pts h
  rw [html_of h1 h2]
  apply enc_ne
  cases zs with
  | nil => exact absurd rfl ht
  | cons p l =>
    rw [html_cons]
    unfold hP
    repeat' split
    all_goals exact List.cons_ne_nil _ _
end Go.Proofs.YtklcjimmbkpbdaaGreatDoor
