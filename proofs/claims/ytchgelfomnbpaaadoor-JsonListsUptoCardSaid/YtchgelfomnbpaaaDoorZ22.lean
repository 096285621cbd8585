/-
  The program's way with a value of JSON, plain: what each branch answers. No conditions.
-/
import Derived.Test.YtchgelfomnbpaaaDoorZ09
namespace Go.Proofs.YtchgelfomnbpaaaDoor
open Go.Lib

/-- Read, or nothing that could be read stands there: a number that ends ahead of a digit. -/
def GoodV (d : Nat) (s : Bt) (v : JV) (r : Bt) : Prop := valX d s = .ok (v, r) ∨ valX d s = .error 70 ∧ ∃ c t, r = c :: t ∧ isD 10 c = true
def opnB (obj : Bool) : UInt8 := if obj then 123 else 91
/-- What stands behind the bracket that opens. -/
def insF (d : Nat) (obj : Bool) (s : Bt) : Except Int (JV × Bt) :=
  if d = 24 then .error 71 else if (blanksL s).head? = some (endC obj) then .ok (.mk (kindC obj) [] [] [], (blanksL s).drop 1) else loopX d obj [] [] (blanksL s)
theorem valX_open {d : Nat} {s r : Bt} {obj : Bool} (h : blanksL s = opnB obj :: r) : valX d s = insF d obj r := by
  rw [valX_eq, ← valS_blanks, h]
  have hb : isBl (opnB obj) = false := by cases obj <;> decide
  have h1 : opnB obj ≠ 110 := by cases obj <;> decide
  have h2 : opnB obj ≠ 102 := by cases obj <;> decide
  have h3 : opnB obj ≠ 116 := by cases obj <;> decide
  have h4 : opnB obj ≠ 34 := by cases obj <;> decide
  have h5 : ¬ (opnB obj ≠ 91 ∧ opnB obj ≠ 123) := by cases obj <;> decide
  have h6 : decide (opnB obj = 123) = obj := by cases obj <;> decide
  rw [valS_other _ _ hb h1 h2 h3, if_neg h4, if_neg h5, h6]
  rfl
theorem valX_null {d : Nat} {s t : Bt} (ht : blanksL s = t) (h : nullW.isPrefixOf t = true) : valX d s = .ok (.mk 0 [] [] [], t.drop 4) := by
  rw [valX_eq]
  unfold valS
  dsimp only
  rw [ht, if_pos h]
theorem valX_false {d : Nat} {s t : Bt} (ht : blanksL s = t) (h0 : nullW.isPrefixOf t = false) (h : falseW.isPrefixOf t = true) : valX d s = .ok (.mk 1 [] [] [], t.drop 5) := by
  rw [valX_eq]
  unfold valS
  dsimp only
  rw [ht, if_neg (by rw [h0]; decide), if_pos h]
theorem valX_true {d : Nat} {s t : Bt} (ht : blanksL s = t) (h0 : nullW.isPrefixOf t = false) (h1 : falseW.isPrefixOf t = false) (h : trueW.isPrefixOf t = true) : valX d s = .ok (.mk 2 [] [] [], t.drop 4) := by
  rw [valX_eq]
  unfold valS
  dsimp only
  rw [ht, if_neg (by rw [h0]; decide), if_neg (by rw [h1]; decide), if_pos h]
theorem pre_head {c : UInt8} {t : Bt} : ([c] : Bt).isPrefixOf t = true ↔ t.head? = some c := by
  cases t with
  | nil => exact ⟨fun h => (by cases h), fun h => (by cases h)⟩
  | cons a t =>
    by_cases h : c = a
    · subst h
      exact ⟨fun _ => rfl, fun _ => by show (c == c && _) = true; rw [beq_self_eq_true]; rfl⟩
    · rw [pre_ne h]
      exact ⟨fun h => (by cases h), fun e => absurd (Option.some.inj e).symm h⟩
/-- Neither a word nor a bracket. -/
structure Bare (t : Bt) : Prop where
  list : ([91] : Bt).isPrefixOf t = false
  obj : ([123] : Bt).isPrefixOf t = false
  null : nullW.isPrefixOf t = false
  no : falseW.isPrefixOf t = false
  yes : trueW.isPrefixOf t = false
theorem valX_bare {d : Nat} {s t : Bt} (ht : blanksL s = t) (h : Bare t) : valX d s = if t.head? = some 34 then (match textL t with | none => .error 70 | some (x, r) => .ok (.mk 4 x [] [], r)) else if numLen t = 0 then .error 70 else .ok (.mk 3 (t.take (numLen t)) [] [], t.drop (numLen t)) := by
  rw [valX_eq]
  unfold valS
  dsimp only
  have h1 : t.head? ≠ some 91 := fun e => by have := pre_head.2 e; rw [h.list] at this; cases this
  have h2 : t.head? ≠ some 123 := fun e => by have := pre_head.2 e; rw [h.obj] at this; cases this
  rw [ht, if_neg (by rw [h.null]; decide), if_neg (by rw [h.no]; decide), if_neg (by rw [h.yes]; decide)]
  congr 1
  rw [if_pos ⟨h1, h2⟩]
theorem numF_quote (t : Bt) : numF (34 :: t) = none := by
  unfold numF wholeF digF
  rw [show signL (34 :: t) = 0 from rfl]
  rfl
/-- A number stands there, the program says. -/
theorem valX_num {d : Nat} {s t r : Bt} (ht : blanksL s = t) (h : Bare t) (hn : numF t = some r) : GoodV d s (.mk 3 (t.take (t.length - r.length)) [] []) r := by
  have h34 : t.head? ≠ some 34 := fun e => by
    cases t with
    | nil => cases e
    | cons c u =>
      have : c = 34 := Option.some.inj e
      subst this
      rw [numF_quote] at hn
      cases hn
  have hv := valX_bare (d := d) ht h
  rw [if_neg h34] at hv
  obtain ⟨n1, n2⟩ := num_two t
  by_cases h0 : numLen t = 0
  · rw [if_pos h0] at hv
    rcases n2 h0 with e | ⟨c, x, e, hc⟩
    · rw [e] at hn; cases hn
    · rw [e] at hn
      exact .inr ⟨hv, c, x, (Option.some.inj hn).symm, hc⟩
  · rw [if_neg h0] at hv
    have e := n1 h0
    rw [hn] at e
    have e2 := Option.some.inj e
    left
    rw [hv, e2, List.length_drop]
    have := numLen_le t
    rw [show t.length - (t.length - numLen t) = numLen t by omega]
theorem text_quote {t x r : Bt} (h : textL t = some (x, r)) : t.head? = some 34 := by
  cases t with
  | nil => cases h
  | cons c u =>
    by_cases hc : c = 34
    · rw [hc]; rfl
    · unfold textL at h
      dsimp only at h
      rw [if_neg hc] at h
      cases h
theorem valX_text {d : Nat} {s t x r : Bt} (ht : blanksL s = t) (h : Bare t) (hx : textL t = some (x, r)) : valX d s = .ok (.mk 4 x [] [], r) := by
  rw [valX_bare ht h, if_pos (text_quote hx), hx]
theorem valX_none {d : Nat} {s t : Bt} (ht : blanksL s = t) (h : Bare t) (hn : numF t = none) (hx : textL t = none) : valX d s = .error 70 := by
  rw [valX_bare ht h, hx]
  have h0 : numLen t = 0 := Classical.byContradiction fun h0 => by
    have := (num_two t).1 h0
    rw [hn] at this
    cases this
  rw [if_pos h0]
  split <;> rfl
/-- Behind a member. -/
theorem loopX_good {d : Nat} {obj : Bool} {ns ns' : List Bt} {vs : List JV} {s s1 r : Bt} {v : JV} (hn : namesL obj ns s = some (ns', s1)) (hv : valX (d + 1) s1 = .ok (v, r)) :
    (∀ x, blanksL r = 44 :: x → loopX d obj ns vs s = loopX d obj ns' (vs ++ [v]) x) ∧ (∀ x, blanksL r = endC obj :: x → loopX d obj ns vs s = .ok (.mk (kindC obj) [] ns' (vs ++ [v]), x)) ∧ (([44] : Bt).isPrefixOf (blanksL r) = false → ([endC obj] : Bt).isPrefixOf (blanksL r) = false → loopX d obj ns vs s = .error 70) := by
  have e : loopX d obj ns vs s = match blanksL r with
      | [] => .error 70
      | c :: x => if c = endC obj then .ok (.mk (kindC obj) [] ns' (vs ++ [v]), x) else if c ≠ 44 then .error 70 else loopX d obj ns' (vs ++ [v]) x := by
    rw [loopX_eq]
    unfold loopS
    rw [hn]
    dsimp only
    rw [hv]
    rfl
  refine ⟨fun x h => ?_, fun x h => ?_, fun h1 h2 => ?_⟩
  · rw [e, h]
    dsimp only
    rw [if_neg (by cases obj <;> decide), if_neg (by decide)]
  · rw [e, h]
    dsimp only
    rw [if_pos rfl]
  · rw [e]
    cases hb : blanksL r with
    | nil => rfl
    | cons c x =>
      rw [hb] at h1 h2
      dsimp only
      rw [if_neg (fun h => by subst h; simp [List.isPrefixOf] at h2), if_pos (fun h => by subst h; simp [List.isPrefixOf] at h1)]
theorem loopX_bad {d : Nat} {obj : Bool} {ns ns' : List Bt} {vs : List JV} {s s1 : Bt} {z : Int} (hn : namesL obj ns s = some (ns', s1)) (hv : valX (d + 1) s1 = .error z) : loopX d obj ns vs s = .error z := by
  rw [loopX_eq]
  unfold loopS
  rw [hn]
  dsimp only
  rw [hv]
theorem loopX_noname {d : Nat} {obj : Bool} {ns : List Bt} {vs : List JV} {s : Bt} (hn : namesL obj ns s = none) : loopX d obj ns vs s = .error 70 := by
  rw [loopX_eq]
  unfold loopS
  rw [hn]
/-- A digit is neither a comma nor an end. -/
theorem digit_pre {c : UInt8} {t : Bt} (h : isD 10 c = true) (obj : Bool) : blanksL (c :: t) = c :: t ∧ ([44] : Bt).isPrefixOf (c :: t) = false ∧ ([endC obj] : Bt).isPrefixOf (c :: t) = false := by
  obtain ⟨_, _, _, _, h1, h2, h3, h4⟩ := digit_ne h
  refine ⟨blanks_keep h4 t, ?_, ?_⟩
  · simp [List.isPrefixOf, Ne.symm h1]
  · cases obj <;> simp [List.isPrefixOf, endC, Ne.symm h2, Ne.symm h3]
theorem names_stay {obj : Bool} {ns ns' : List Bt} {s r : Bt} (h : namesL obj ns s = some (ns', r)) : (obj = false → ns' = ns ∧ r = s) ∧ (obj = true → ∃ x, memberL s = some (x, r) ∧ ns' = ns ++ [x]) := by
  unfold namesL at h
  cases obj with
  | false => cases h; exact ⟨fun _ => ⟨rfl, rfl⟩, fun h => by cases h⟩
  | true =>
    refine ⟨fun h => (by cases h), fun _ => ?_⟩
    cases hm : memberL s with
    | none => rw [hm] at h; cases h
    | some y =>
      rw [hm] at h
      obtain ⟨x, r'⟩ := y
      cases h
      exact ⟨x, rfl, rfl⟩
theorem member_text {s x r : Bt} (h : textL (blanksL s) = some (x, r)) : memberL s = match blanksL r with | [] => none | c :: u => if c = 58 then some (x, u) else none := by
  unfold memberL
  rw [h]
  rfl
theorem member_notext {s : Bt} (h : textL (blanksL s) = none) : memberL s = none := by
  unfold memberL
  rw [h]
theorem member_colon {s x r : Bt} (h : textL (blanksL s) = some (x, r)) : (∀ u, ([58] : Bt).isPrefixOf (blanksL r) = true → (blanksL r).drop 1 = u → memberL s = some (x, u)) ∧ (([58] : Bt).isPrefixOf (blanksL r) = false → memberL s = none) := by
  rw [member_text h]
  cases hb : blanksL r with
  | nil => exact ⟨fun u h => (by cases h), fun _ => rfl⟩
  | cons c u =>
    dsimp only
    refine ⟨fun u' h e => ?_, fun h => ?_⟩
    · have := pre_head.1 h
      have : c = 58 := Option.some.inj this
      rw [if_pos this, ← e]
      rfl
    · rw [if_neg (fun e => by subst e; simp [List.isPrefixOf] at h)]
end Go.Proofs.YtchgelfomnbpaaaDoor
