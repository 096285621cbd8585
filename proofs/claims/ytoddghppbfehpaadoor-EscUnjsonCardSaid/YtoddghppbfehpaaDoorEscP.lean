/-
  Plain facts on escapes: what a code point is written as in HTML and in JSON, which references and which escapes there are, and that what is written is read again as it was. No conditions.
-/
import Derived.Test.YtoddghppbfehpaaDoorPlain
namespace Go.Proofs.YtoddghppbfehpaaDoor
open Go.Lib

/-- What XML has. -/
def inXml (p : Int) : Bool := decide (32 ≤ p ∧ p ≠ 65534 ∧ p ≠ 65535 ∨ p = 9 ∨ p = 10 ∨ p = 13)

/-! A code point in HTML, as code points. -/
def hP (p : Int) : List Int :=
  if p = 38 then [38, 97, 109, 112, 59] else if p = 60 then [38, 108, 116, 59] else if p = 62 then [38, 103, 116, 59] else if p = 34 then [38, 113, 117, 111, 116, 59] else if p = 39 then [38, 35, 51, 57, 59] else [p]
def html (l : List Int) : List Int := l.flatMap hP
theorem html_nil : html [] = [] := rfl
theorem html_cons (p : Int) (l : List Int) : html (p :: l) = hP p ++ html l := by simp [html]
theorem html_append (a b : List Int) : html (a ++ b) = html a ++ html b := by simp [html]
theorem hP_length (p : Int) : (hP p).length ≤ 6 := by
  unfold hP; repeat' split
  all_goals simp
theorem flat_length {f : Int → List Int} {m : Nat} (h : ∀ p, (f p).length ≤ m) (l : List Int) : (l.flatMap f).length ≤ m * l.length := by
  induction l with
  | nil => simp
  | cons p l ih =>
    have := h p
    rw [List.flatMap_cons, List.length_append, List.length_cons, Nat.mul_succ]; omega
theorem html_length (l : List Int) : (html l).length ≤ 6 * l.length := flat_length hP_length l
theorem hP_pt (p : Int) (h : isPt p = true) : AllPt (hP p) := by
  intro q hq
  unfold hP at hq
  repeat' split at hq
  all_goals simp at hq
  all_goals first | (subst hq; exact h) | (rcases hq with rfl | rfl | rfl | rfl | rfl | rfl <;> decide) | (rcases hq with rfl | rfl | rfl | rfl | rfl <;> decide) | (rcases hq with rfl | rfl | rfl | rfl <;> decide)
theorem flat_pt {f : Int → List Int} (h : ∀ p, isPt p = true → AllPt (f p)) {l : List Int} (hl : AllPt l) : AllPt (l.flatMap f) := by
  intro q hq
  obtain ⟨p, hp, hq⟩ := List.mem_flatMap.1 hq
  exact h p (hl p hp) q hq
theorem html_pt {l : List Int} (h : AllPt l) : AllPt (html l) := flat_pt hP_pt h
theorem hP_xml (p : Int) (h : inXml p = true) : ∀ q ∈ hP p, inXml q = true := by
  intro q hq
  unfold hP at hq
  repeat' split at hq
  all_goals simp at hq
  all_goals first | (subst hq; exact h) | (rcases hq with rfl | rfl | rfl | rfl | rfl | rfl <;> decide) | (rcases hq with rfl | rfl | rfl | rfl | rfl <;> decide) | (rcases hq with rfl | rfl | rfl | rfl <;> decide)
theorem html_xml {l : List Int} (h : ∀ p ∈ l, inXml p = true) : (html l).filter inXml = html l := by
  rw [List.filter_eq_self]
  intro q hq
  obtain ⟨p, hp, hq⟩ := List.mem_flatMap.1 hq
  exact hP_xml p (h p hp) q hq
theorem hP_no (p q : Int) (hq : q ∈ hP p) : q ≠ 60 ∧ q ≠ 62 ∧ q ≠ 34 ∧ q ≠ 39 := by
  unfold hP at hq
  repeat' split at hq
  all_goals simp at hq
  all_goals omega
theorem html_no (l : List Int) (q : Int) (hq : q ∈ html l) : q ≠ 60 ∧ q ≠ 62 ∧ q ≠ 34 ∧ q ≠ 39 := by
  obtain ⟨p, _, hq⟩ := List.mem_flatMap.1 hq
  exact hP_no p q hq

/-! Digits. -/
def digN (c : UInt8) : Int := if 48 ≤ c.toNat ∧ c.toNat ≤ 57 then (c.toNat : Int) - 48 else if 97 ≤ c.toNat ∧ c.toNat ≤ 102 then (c.toNat : Int) - 87 else if 65 ≤ c.toNat ∧ c.toNat ≤ 70 then (c.toNat : Int) - 55 else -1
theorem digN_bd (c : UInt8) : -1 ≤ digN c ∧ digN c ≤ 15 := by unfold digN; repeat' split
                                                              all_goals omega
def isD (base : Int) (c : UInt8) : Bool := decide (0 ≤ digN c) && decide (digN c < base)
def valD (base : Int) (l : List UInt8) : Int := l.foldl (fun n c => n * base + digN c) 0
theorem valD_snoc (base : Int) (l : List UInt8) (c : UInt8) : valD base (l ++ [c]) = valD base l * base + digN c := by simp [valD]
theorem isD_59 (base : Int) : isD base 59 = false := by
  have : digN 59 = -1 := by decide
  simp [isD, this]
/-- A number of one to most digits, or -1. -/
def numP (base : Int) (most : Nat) (l : List UInt8) : Int := if l = [] ∨ most < l.length ∨ l.all (isD base) = false then -1 else valD base l
/-- The digits at the beginning. -/
def digs (base : Int) (most : Nat) (l : List UInt8) : List UInt8 := (l.take most).takeWhile (isD base)
theorem digs_length (base : Int) (most : Nat) (l : List UInt8) : (digs base most l).length ≤ most ∧ (digs base most l).length ≤ l.length := by
  unfold digs
  have h1 := (List.takeWhile_prefix (p := isD base) (l := l.take most)).length_le
  rw [List.length_take] at h1
  omega
theorem digs_all (base : Int) (most : Nat) (l : List UInt8) : ∀ c ∈ digs base most l, isD base c = true := fun c hc => by
  have := List.all_takeWhile (p := isD base) (l := l.take most)
  exact List.all_eq_true.1 this c hc
theorem digs_pre (base : Int) (most : Nat) (l : List UInt8) : digs base most l = l.take (digs base most l).length := by
  have h1 : digs base most l <+: l := (List.takeWhile_prefix _).trans (List.take_prefix _ _)
  exact List.prefix_iff_eq_take.1 h1
theorem digs_semi_eq (base : Int) (most : Nat) (ds t : List UInt8) (h : ¬ (ds = [] ∨ most < ds.length ∨ ds.all (isD base) = false)) : digs base most (ds ++ 59 :: t) = ds := by
  have h2 : ds.length ≤ most := by
    apply Decidable.byContradiction; intro hh; exact h (.inr (.inl (by omega)))
  have h3 : ds.all (isD base) = true := by
    cases hh : ds.all (isD base) with
    | true => rfl
    | false => exact absurd (.inr (.inr hh)) h
  unfold digs
  rw [List.take_append, List.take_of_length_le h2]
  rw [List.takeWhile_append_of_pos (fun c hc => List.all_eq_true.1 h3 c hc)]
  have : (List.takeWhile (isD base) (List.take (most - ds.length) (59 :: t))) = [] := by
    cases hm : most - ds.length with
    | zero => rfl
    | succ n => simp [isD_59]
  rw [this, List.append_nil]
/-- What is all digits up to a semicolon. -/
theorem digs_semi (base : Int) (most : Nat) (ds t : List UInt8) (h59 : (59 : UInt8) ∉ ds) :
    ((digs base most (ds ++ 59 :: t)).length ≠ 0 ∧ (ds ++ 59 :: t)[(digs base most (ds ++ 59 :: t)).length]? = some 59) ↔ ¬ (ds = [] ∨ most < ds.length ∨ ds.all (isD base) = false) := by
  constructor
  · rintro ⟨h0, h1⟩
    have hlen := digs_length base most (ds ++ 59 :: t)
    have hall := digs_all base most (ds ++ 59 :: t)
    have hpre := digs_pre base most (ds ++ 59 :: t)
    generalize digs base most (ds ++ 59 :: t) = g at *
    have hge : ds.length ≤ g.length := by
      apply Decidable.byContradiction
      intro hlt
      rw [List.getElem?_append_left (by omega)] at h1
      exact h59 (List.mem_of_getElem? h1)
    have hle : g.length ≤ ds.length := by
      apply Decidable.byContradiction
      intro hlt
      have : (59 : UInt8) ∈ g := by
        rw [hpre]
        refine List.mem_of_getElem? (i := ds.length) ?_
        rw [List.getElem?_take_of_lt (by omega), List.getElem?_append_right (Nat.le_refl _)]
        simp
      have := hall 59 this
      rw [isD_59] at this
      cases this
    have he : g.length = ds.length := by omega
    have hg : g = ds := by rw [hpre, he, List.take_left]
    subst hg
    rintro (h | h | h)
    · subst h; exact h0 rfl
    · omega
    · have : g.all (isD base) = true := List.all_eq_true.2 hall
      rw [this] at h; cases h
  · intro h
    have h1 : ds ≠ [] := fun e => h (.inl e)
    have hd := digs_semi_eq base most ds t h
    rw [hd]
    refine ⟨fun e => h1 (List.eq_nil_of_length_eq_zero e), ?_⟩
    rw [List.getElem?_append_right (Nat.le_refl _)]
    simp
end Go.Proofs.YtoddghppbfehpaaDoor
