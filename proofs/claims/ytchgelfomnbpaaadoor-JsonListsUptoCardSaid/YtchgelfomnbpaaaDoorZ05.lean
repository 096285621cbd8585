/-
  Of the proofs of layer 7 (values of JSON): the parts JsP JsQ JsR JsS JsT. No conditions.
-/
import Derived.Test.YtchgelfomnbpaaaDoorZ04
namespace Go.Proofs.YtchgelfomnbpaaaDoor
open Go.Lib

abbrev Bt := List UInt8
/-- A value, whatever it holds. -/
inductive JV where
  | mk (kind : Int) (text : Bt) (names : List Bt) (list : List JV)
def JV.kind : JV → Int | .mk k _ _ _ => k
def JV.text : JV → Bt | .mk _ t _ _ => t
def JV.names : JV → List Bt | .mk _ _ n _ => n
def JV.list : JV → List JV | .mk _ _ _ l => l
def isBl (c : UInt8) : Bool := c == 32 || c == 9 || c == 10 || c == 13
def blanksL (s : Bt) : Bt := s.dropWhile isBl
/-! ### Numbers -/
def dgL (s : Bt) : Nat := (s.takeWhile (isD 10)).length
def signL (s : Bt) : Nat := if s.head? = some 45 then 1 else 0
def fracL (s : Bt) : Option Nat := if s.head? = some 46 then (if dgL (s.drop 1) = 0 then none else some (dgL (s.drop 1) + 1)) else some 0
def expSL (s : Bt) : Nat := if s.head? = some 43 ∨ s.head? = some 45 then 1 else 0
def expL (s : Bt) : Option Nat :=
  if s.head? = some 101 ∨ s.head? = some 69 then (if dgL (s.drop (1 + expSL (s.drop 1))) = 0 then none else some (1 + expSL (s.drop 1) + dgL (s.drop (1 + expSL (s.drop 1))))) else some 0
/-- How long a number at the front is; 0: there is none. -/
def numLen (s : Bt) : Nat :=
  let i := signL s
  let n := dgL (s.drop i)
  if n = 0 ∨ ((s.drop i).head? = some 48 ∧ 1 < n) then 0 else
    match fracL (s.drop (i + n)) with
    | none => 0
    | some f => match expL (s.drop (i + n + f)) with
      | none => 0
      | some e => i + n + f + e
/-! ### Texts in quotes -/
/-- Up to the quote that ends a text, and what stands behind it. -/
def scanQ : Bt → Option (Bt × Bt)
  | [] => none
  | c :: r => if c = 34 then some ([], r) else if c = 92 then (match r with | [] => none | d :: r' => (scanQ r').map fun x => (92 :: d :: x.1, x.2)) else (scanQ r).map fun x => (c :: x.1, x.2)
/-- What a text in quotes says, by what stands between them. -/
def unjq (a : Bt) : Option Bt := if validD (34 :: a ++ [34]) = true then unj a else none
def textL (s : Bt) : Option (Bt × Bt) :=
  match s with
  | [] => none
  | c :: r => if c = 34 then (match scanQ r with | none => none | some (a, b) => (unjq a).map fun x => (x, b)) else none
def memberL (s : Bt) : Option (Bt × Bt) :=
  match textL (blanksL s) with
  | none => none
  | some (x, r) => match blanksL r with
    | [] => none
    | c :: r => if c = 58 then some (x, r) else none
def nullW : Bt := [110, 117, 108, 108]
def falseW : Bt := [102, 97, 108, 115, 101]
def trueW : Bt := [116, 114, 117, 101]
def endC (obj : Bool) : UInt8 := if obj then 125 else 93
def kindC (obj : Bool) : Int := if obj then 6 else 5
mutual
def valJ : Nat → Nat → Bt → Except Int (JV × Bt)
  | 0, _, _ => .error 70
  | n + 1, depth, s0 =>
    let s := blanksL s0
    if nullW.isPrefixOf s then .ok (.mk 0 [] [] [], s.drop 4)
    else if falseW.isPrefixOf s then .ok (.mk 1 [] [] [], s.drop 5)
    else if trueW.isPrefixOf s then .ok (.mk 2 [] [] [], s.drop 4)
    else if s.head? = some 34 then (match textL s with | none => .error 70 | some (x, r) => .ok (.mk 4 x [] [], r))
    else if s.head? ≠ some 91 ∧ s.head? ≠ some 123 then (if numLen s = 0 then .error 70 else .ok (.mk 3 (s.take (numLen s)) [] [], s.drop (numLen s)))
    else if depth = 24 then .error 71
    else
      let obj := decide (s.head? = some 123)
      let r := blanksL (s.drop 1)
      if r.head? = some (endC obj) then .ok (.mk (kindC obj) [] [] [], r.drop 1)
      else loopJ n depth obj [] [] r
def loopJ : Nat → Nat → Bool → List Bt → List JV → Bt → Except Int (JV × Bt)
  | 0, _, _, _, _, _ => .error 70
  | n + 1, depth, obj, ns, vs, s =>
    match (if obj then (memberL s).map fun x => (ns ++ [x.1], x.2) else some (ns, s)) with
    | none => .error 70
    | some (ns, s) => match valJ n (depth + 1) s with
      | .error e => .error e
      | .ok (v, s) => match blanksL s with
        | [] => .error 70
        | c :: r => if c = endC obj then .ok (.mk (kindC obj) [] ns (vs ++ [v]), r) else if c ≠ 44 then .error 70 else loopJ n depth obj ns (vs ++ [v]) r
end
def parseJ (b : Bt) : Except Int JV :=
  if 65536 < b.length then .error 72 else
    match valJ (2 * b.length + 2) 0 b with
    | .error e => .error e
    | .ok (v, r) => if blanksL r = [] then .ok v else .error 70
/-! ### What is right; what is written -/
def jqL (x : Bt) : Bt := 34 :: enc (jsn (pts x)) ++ [34]
mutual
def rightJ : Nat → JV → Bool
  | depth, .mk k t ns l =>
    if k < 0 ∨ 6 < k then false
    else if (k < 5 ∧ 0 < l.length) ∨ (k ≠ 6 ∧ 0 < ns.length) ∨ (k = 6 ∧ ns.length ≠ l.length) then false
    else if k = 3 then decide (t ≠ [] ∧ numLen t = t.length)
    else if k = 4 then validD t
    else if t ≠ [] ∨ (5 ≤ k ∧ depth = 24) then false
    else (decide (k ≠ 6) || ns.all validD) && rightsJ (depth + 1) l
def rightsJ : Nat → List JV → Bool
  | _, [] => true
  | depth, v :: l => rightJ depth v && rightsJ depth l
end
mutual
def printJ : JV → Bt
  | .mk k t ns l => if k = 0 then nullW else if k = 1 then falseW else if k = 2 then trueW else if k = 3 then t else if k = 4 then jqL t
    else if k = 5 then 91 :: (joinJ false ns l ++ [93]) else 123 :: (joinJ true ns l ++ [125])
/-- Members, with commas between. -/
def joinJ : Bool → List Bt → List JV → Bt
  | _, _, [] => []
  | obj, ns, v :: l => (if obj then jqL (ns.headD []) ++ [58] else []) ++ printJ v ++ restJ obj (ns.drop 1) l
/-- Members, with a comma ahead of each. -/
def restJ : Bool → List Bt → List JV → Bt
  | _, _, [] => []
  | obj, ns, v :: l => 44 :: ((if obj then jqL (ns.headD []) ++ [58] else []) ++ printJ v ++ restJ obj (ns.drop 1) l)
end
/-! ### Blanks -/
theorem blanks_idem (s : Bt) : blanksL (blanksL s) = blanksL s := by
  unfold blanksL
  induction s with
  | nil => rfl
  | cons c r ih =>
    by_cases h : isBl c = true
    · rw [List.dropWhile_cons_of_pos h]; exact ih
    · rw [List.dropWhile_cons_of_neg h, List.dropWhile_cons_of_neg h]
theorem blanks_le (s : Bt) : (blanksL s).length ≤ s.length := by
  unfold blanksL
  induction s with
  | nil => exact Nat.le_refl _
  | cons c r ih =>
    by_cases h : isBl c = true
    · rw [List.dropWhile_cons_of_pos h, List.length_cons]; omega
    · rw [List.dropWhile_cons_of_neg h]; exact Nat.le_refl _
theorem blanks_keep {c : UInt8} (h : isBl c = false) (r : Bt) : blanksL (c :: r) = c :: r := by
  unfold blanksL
  exact List.dropWhile_cons_of_neg (by rw [h]; decide)
theorem blanks_pass (a : Bt) (h : ∀ c ∈ a, isBl c = true) (s : Bt) : blanksL (a ++ s) = blanksL s := by
  induction a with
  | nil => rfl
  | cons c a ih =>
    unfold blanksL at *
    rw [List.cons_append, List.dropWhile_cons_of_pos (h c (by simp))]
    exact ih fun x hx => h x (by simp [hx])
end Go.Proofs.YtchgelfomnbpaaaDoor
namespace Go.Proofs.YtchgelfomnbpaaaDoor
open Go.Lib

abbrev LoopF := Nat → Bool → List Bt → List JV → Bt → Except Int (JV × Bt)
abbrev ValF := Nat → Bt → Except Int (JV × Bt)
def valS (lp : LoopF) (depth : Nat) (s0 : Bt) : Except Int (JV × Bt) :=
  let s := blanksL s0
  if nullW.isPrefixOf s then .ok (.mk 0 [] [] [], s.drop 4)
  else if falseW.isPrefixOf s then .ok (.mk 1 [] [] [], s.drop 5)
  else if trueW.isPrefixOf s then .ok (.mk 2 [] [] [], s.drop 4)
  else if s.head? = some 34 then (match textL s with | none => .error 70 | some (x, r) => .ok (.mk 4 x [] [], r))
  else if s.head? ≠ some 91 ∧ s.head? ≠ some 123 then (if numLen s = 0 then .error 70 else .ok (.mk 3 (s.take (numLen s)) [] [], s.drop (numLen s)))
  else if depth = 24 then .error 71
  else
    let obj := decide (s.head? = some 123)
    let r := blanksL (s.drop 1)
    if r.head? = some (endC obj) then .ok (.mk (kindC obj) [] [] [], r.drop 1)
    else lp depth obj [] [] r
def namesL (obj : Bool) (ns : List Bt) (s : Bt) : Option (List Bt × Bt) := if obj then (memberL s).map fun x => (ns ++ [x.1], x.2) else some (ns, s)
def loopS (vj : ValF) (lp : LoopF) : LoopF := fun depth obj ns vs s =>
  match namesL obj ns s with
  | none => .error 70
  | some (ns, s) => match vj (depth + 1) s with
    | .error e => .error e
    | .ok (v, s) => match blanksL s with
      | [] => .error 70
      | c :: r => if c = endC obj then .ok (.mk (kindC obj) [] ns (vs ++ [v]), r) else if c ≠ 44 then .error 70 else lp depth obj ns (vs ++ [v]) r
theorem valJ_succ (n : Nat) : valJ (n + 1) = valS (loopJ n) := by
  funext depth s
  rw [valJ]
  rfl
theorem loopJ_succ (n : Nat) : loopJ (n + 1) = loopS (valJ n) (loopJ n) := by
  funext depth obj ns vs s
  rw [loopJ]
  rfl
theorem scan_len : ∀ (s a b : Bt), scanQ s = some (a, b) → s = a ++ 34 :: b
  | [], a, b, h => by simp [scanQ] at h
  | c :: r, a, b, h => by
    unfold scanQ at h
    split at h
    · rename_i hc
      cases h
      rw [hc]
      rfl
    · split at h
      · rename_i hc
        cases r with
        | nil => cases h
        | cons d r' =>
          dsimp only at h
          cases hr : scanQ r' with
          | none => rw [hr] at h; cases h
          | some x =>
            rw [hr] at h
            obtain ⟨a', b'⟩ := x
            cases h
            rw [scan_len r' a' b' hr, hc]
            rfl
      · cases hr : scanQ r with
        | none => rw [hr] at h; cases h
        | some x =>
          rw [hr] at h
          obtain ⟨a', b'⟩ := x
          cases h
          rw [scan_len r a' b' hr]
          rfl
theorem text_len {s x r : Bt} (h : textL s = some (x, r)) : r.length < s.length := by
  unfold textL at h
  cases s with
  | nil => cases h
  | cons c s =>
    dsimp only at h
    split at h
    · cases hs : scanQ s with
      | none => rw [hs] at h; cases h
      | some y =>
        obtain ⟨a, b⟩ := y
        rw [hs] at h
        dsimp only at h
        have e := scan_len s a b hs
        cases hu : unjq a with
        | none => rw [hu] at h; cases h
        | some z =>
          rw [hu] at h
          cases h
          rw [e]
          simp
          omega
    · cases h
theorem member_len {s x r : Bt} (h : memberL s = some (x, r)) : r.length < s.length := by
  unfold memberL at h
  cases ht : textL (blanksL s) with
  | none => rw [ht] at h; cases h
  | some y =>
    obtain ⟨x', r'⟩ := y
    rw [ht] at h
    dsimp only at h
    have h1 := text_len ht
    have h2 := blanks_le s
    have h3 := blanks_le r'
    cases hb : blanksL r' with
    | nil => rw [hb] at h; cases h
    | cons c r2 =>
      rw [hb] at h h3
      dsimp only at h
      split at h
      · cases h
        simp at h3
        omega
      · cases h
theorem names_len {obj : Bool} {ns ns' : List Bt} {s r : Bt} (h : namesL obj ns s = some (ns', r)) : r.length ≤ s.length := by
  unfold namesL at h
  cases obj with
  | false => cases h; exact Nat.le_refl _
  | true =>
    cases hm : memberL s with
    | none => rw [hm] at h; cases h
    | some y =>
      obtain ⟨x, r'⟩ := y
      rw [hm] at h
      cases h
      exact Nat.le_of_lt (member_len hm)
theorem prefix_len {w s : Bt} (h : w.isPrefixOf s = true) : w.length ≤ s.length := by
  rw [List.isPrefixOf_iff_prefix] at h
  exact h.length_le
theorem numLen_nil : numLen [] = 0 := rfl
/-- A value has at least one byte. -/
theorem valS_len {lp : LoopF} {depth : Nat} {s : Bt} (hl : ∀ obj t v r, t.length < s.length → lp depth obj [] [] t = .ok (v, r) → r.length < t.length) {v : JV} {r : Bt} (h : valS lp depth s = .ok (v, r)) : r.length < s.length := by
  have hb := blanks_le s
  unfold valS at h
  dsimp only at h
  generalize blanksL s = t at h hb
  split at h
  · rename_i hp
    have := prefix_len hp
    cases h
    rw [List.length_drop]
    simp [nullW] at this
    omega
  · split at h
    · rename_i hp
      have := prefix_len hp
      cases h
      rw [List.length_drop]
      simp [falseW] at this
      omega
    · split at h
      · rename_i hp
        have := prefix_len hp
        cases h
        rw [List.length_drop]
        simp [trueW] at this
        omega
      · split at h
        · cases ht : textL t with
          | none => rw [ht] at h; cases h
          | some y =>
            obtain ⟨x, r'⟩ := y
            rw [ht] at h
            cases h
            have := text_len ht
            omega
        · split at h
          · split at h
            · cases h
            · rename_i hn
              cases h
              rw [List.length_drop]
              cases t with
              | nil => exact absurd numLen_nil hn
              | cons c t =>
                simp at hb ⊢
                omega
          · rename_i h34 hbr
            split at h
            · cases h
            · cases t with
              | nil => simp at hbr
              | cons c t =>
                have h2 := blanks_le t
                simp only [List.drop_succ_cons, List.drop_zero, List.length_cons] at h hb
                split at h
                · cases h
                  rw [List.length_drop]
                  omega
                · have := hl _ _ _ _ (by omega) h
                  omega
theorem loopS_len {vj : ValF} {lp : LoopF} {depth : Nat} {obj : Bool} {ns : List Bt} {vs : List JV} {s : Bt} (hv : ∀ t v r, t.length ≤ s.length → vj (depth + 1) t = .ok (v, r) → r.length < t.length) (hl : ∀ ns vs t v r, t.length < s.length → lp depth obj ns vs t = .ok (v, r) → r.length < t.length) {v : JV} {r : Bt} (h : loopS vj lp depth obj ns vs s = .ok (v, r)) : r.length < s.length := by
  unfold loopS at h
  cases hn : namesL obj ns s with
  | none => rw [hn] at h; cases h
  | some y =>
    obtain ⟨ns', t⟩ := y
    have h1 := names_len hn
    rw [hn] at h
    dsimp only at h
    cases hj : vj (depth + 1) t with
    | error e => rw [hj] at h; cases h
    | ok z =>
      obtain ⟨v', u⟩ := z
      have h2 := hv t v' u h1 hj
      have h3 := blanks_le u
      rw [hj] at h
      dsimp only at h
      cases hb : blanksL u with
      | nil => rw [hb] at h; cases h
      | cons c r2 =>
        rw [hb] at h h3
        simp only [List.length_cons] at h3
        dsimp only at h
        split at h
        · cases h
          omega
        · split at h
          · cases h
          · have := hl _ _ _ _ _ (by omega) h
            omega
theorem lenJ : ∀ n, (∀ depth s v r, valJ n depth s = .ok (v, r) → r.length < s.length) ∧ (∀ depth obj ns vs s v r, loopJ n depth obj ns vs s = .ok (v, r) → r.length < s.length)
  | 0 => ⟨(fun depth s v r h => by rw [valJ] at h; cases h), (fun depth obj ns vs s v r h => by rw [loopJ] at h; cases h)⟩
  | n + 1 => by
    obtain ⟨h1, h2⟩ := lenJ n
    refine ⟨fun depth s v r h => ?_, fun depth obj ns vs s v r h => ?_⟩
    · rw [valJ_succ] at h
      exact valS_len (fun obj t v r _ h => h2 _ _ _ _ _ _ _ h) h
    · rw [loopJ_succ] at h
      exact loopS_len (fun t v r _ h => h1 _ _ _ _ h) (fun ns vs t v r _ h => h2 _ _ _ _ _ _ _ h) h
/-- Only what stands behind a bracket is handed on. -/
theorem valS_congr {lp lp' : LoopF} {depth : Nat} {s : Bt} (hl : ∀ obj t, t.length < s.length → lp depth obj [] [] t = lp' depth obj [] [] t) : valS lp depth s = valS lp' depth s := by
  have hb := blanks_le s
  unfold valS
  dsimp only
  generalize blanksL s = t at hb
  split
  · rfl
  · split
    · rfl
    · split
      · rfl
      · split
        · rfl
        · split
          · rfl
          · rename_i h34 hbr
            split
            · rfl
            · cases t with
              | nil => simp at hbr
              | cons c t =>
                have h2 := blanks_le t
                simp only [List.drop_succ_cons, List.drop_zero, List.length_cons] at hb ⊢
                rw [hl _ (blanksL t) (by omega)]
theorem loopS_congr {vj vj' : ValF} {lp lp' : LoopF} {depth : Nat} {obj : Bool} {ns : List Bt} {vs : List JV} {s : Bt} (hv : ∀ t, t.length ≤ s.length → vj (depth + 1) t = vj' (depth + 1) t) (hvl : ∀ t v r, vj' (depth + 1) t = .ok (v, r) → r.length < t.length) (hl : ∀ ns vs t, t.length < s.length → lp depth obj ns vs t = lp' depth obj ns vs t) : loopS vj lp depth obj ns vs s = loopS vj' lp' depth obj ns vs s := by
  unfold loopS
  cases hn : namesL obj ns s with
  | none => rfl
  | some y =>
    obtain ⟨ns', t⟩ := y
    have h1 := names_len hn
    dsimp only
    rw [hv t h1]
    cases hj : vj' (depth + 1) t with
    | error e => rfl
    | ok z =>
      obtain ⟨v', u⟩ := z
      have h2 := hvl t v' u hj
      have h3 := blanks_le u
      dsimp only
      cases hb : blanksL u with
      | nil => rfl
      | cons c r2 =>
        rw [hb] at h3
        simp only [List.length_cons] at h3
        dsimp only
        rw [hl _ _ r2 (by omega)]
theorem fuelJ : ∀ n m, (∀ depth s, 2 * s.length + 1 ≤ n → 2 * s.length + 1 ≤ m → valJ n depth s = valJ m depth s) ∧ (∀ depth obj ns vs s, 2 * s.length + 2 ≤ n → 2 * s.length + 2 ≤ m → loopJ n depth obj ns vs s = loopJ m depth obj ns vs s)
  | 0, m => ⟨fun _ _ h => by omega, fun _ _ _ _ _ h => by omega⟩
  | n + 1, 0 => ⟨fun _ _ _ h => by omega, fun _ _ _ _ _ _ h => by omega⟩
  | n + 1, m + 1 => by
    obtain ⟨h1, h2⟩ := fuelJ n m
    refine ⟨fun depth s hn hm => ?_, fun depth obj ns vs s hn hm => ?_⟩
    · rw [valJ_succ, valJ_succ]
      exact valS_congr fun obj t ht => h2 _ _ _ _ _ (by omega) (by omega)
    · rw [loopJ_succ, loopJ_succ]
      exact loopS_congr (fun t ht => h1 _ _ (by omega) (by omega)) (fun t v r h => (lenJ m).1 _ _ _ _ h) (fun ns vs t ht => h2 _ _ _ _ _ (by omega) (by omega))
/-- Blanks ahead change nothing. -/
theorem valJ_blanks (n depth : Nat) (s : Bt) : valJ n depth (blanksL s) = valJ n depth s := by
  cases n with
  | zero => rw [valJ, valJ]
  | succ n =>
    rw [valJ_succ]
    unfold valS
    rw [blanks_idem]
end Go.Proofs.YtchgelfomnbpaaaDoor
namespace Go.Proofs.YtchgelfomnbpaaaDoor
open Go.Lib

/-! ### Texts -/
theorem scan_end (r : Bt) : scanQ (34 :: r) = some ([], r) := by
  unfold scanQ
  rw [if_pos rfl]
theorem scan_one {c : UInt8} (h1 : c ≠ 34) (h2 : c ≠ 92) (r : Bt) : scanQ (c :: r) = (scanQ r).map fun x => (c :: x.1, x.2) := by
  conv => lhs; unfold scanQ
  rw [if_neg h1, if_neg h2]
theorem scan_pass : ∀ (a t : Bt), (∀ c ∈ a, c ≠ 34 ∧ c ≠ 92) → scanQ (a ++ t) = (scanQ t).map fun x => (a ++ x.1, x.2)
  | [], t, _ => by
    rw [List.nil_append]
    cases scanQ t with
    | none => rfl
    | some x => rfl
  | c :: a, t, h => by
    have hc := h c (by simp)
    have e : scanQ (c :: a ++ t) = (scanQ (a ++ t)).map fun x => (c :: x.1, x.2) := by
      exact scan_one hc.1 hc.2 (a ++ t)
    rw [e, scan_pass a t (fun x hx => h x (by simp [hx]))]
    cases scanQ t with
    | none => rfl
    | some x => rfl
theorem scan_two (d : UInt8) (t : Bt) : scanQ (92 :: d :: t) = (scanQ t).map fun x => (92 :: d :: x.1, x.2) := by
  rw [scanQ, if_neg (by decide), if_pos rfl]
theorem hx_q : ∀ n, n < 16 → hx n ≠ 34 ∧ hx n ≠ 92 := by decide
theorem hex4_q (n : Nat) (c : UInt8) (h : c ∈ hex4 n) : c ≠ 34 ∧ c ≠ 92 := by
  unfold hex4 at h
  simp only [List.mem_cons, List.mem_nil_iff, or_false] at h
  rcases h with rfl | rfl | rfl | rfl <;> exact hx_q _ (by omega)
theorem scan_jP (p : Int) (hp : isPt p = true) (t : Bt) : scanQ (enc (jP p) ++ t) = (scanQ t).map fun x => (enc (jP p) ++ x.1, x.2) := by
  have two : ∀ d : UInt8, d.toNat < 128 → enc [92, (d.toNat : Int)] = [92, d] := fun d hd => by
    have := enc_ascii [92, d] (fun c hc => by
      simp only [List.mem_cons, List.mem_nil_iff, or_false] at hc
      rcases hc with rfl | rfl
      · decide
      · exact hd)
    exact this
  have short : ∀ d : UInt8, d.toNat < 128 → jP p = [92, (d.toNat : Int)] → scanQ (enc (jP p) ++ t) = (scanQ t).map fun x => (enc (jP p) ++ x.1, x.2) := fun d hd e => by
    rw [e, two d hd]
    exact scan_two d t
  by_cases h1 : p = 34
  · exact short 34 (by decide) (by unfold jP; rw [if_pos h1]; rfl)
  by_cases h2 : p = 92
  · exact short 92 (by decide) (by unfold jP; rw [if_neg h1, if_pos h2]; rfl)
  by_cases h3 : p = 10
  · exact short 110 (by decide) (by unfold jP; rw [if_neg h1, if_neg h2, if_pos h3]; rfl)
  by_cases h4 : p = 13
  · exact short 114 (by decide) (by unfold jP; rw [if_neg h1, if_neg h2, if_neg h3, if_pos h4]; rfl)
  by_cases h5 : p = 9
  · exact short 116 (by decide) (by unfold jP; rw [if_neg h1, if_neg h2, if_neg h3, if_neg h4, if_pos h5]; rfl)
  by_cases h6 : told p = true
  · have e : jP p = (([92, 117] : Bt) ++ hex4 p.toNat).map fun c : UInt8 => (c.toNat : Int) := by
      unfold jP
      rw [if_neg h1, if_neg h2, if_neg h3, if_neg h4, if_neg h5, if_pos h6]
      rfl
    have e2 : enc (jP p) = 92 :: 117 :: hex4 p.toNat := by
      rw [e, enc_ascii _ (fun c hc => by
        rcases List.mem_append.1 hc with h | h
        · simp only [List.mem_cons, List.mem_nil_iff, or_false] at h
          rcases h with rfl | rfl <;> decide
        · have := hex4_mem _ c h
          omega)]
      rfl
    rw [e2]
    show scanQ (92 :: 117 :: (hex4 p.toNat ++ t)) = _
    rw [scan_two, scan_pass _ _ (fun c hc => hex4_q _ c hc)]
    cases scanQ t with
    | none => rfl
    | some x => rfl
  · have e : jP p = [p] := by unfold jP; rw [if_neg h1, if_neg h2, if_neg h3, if_neg h4, if_neg h5, if_neg h6]
    have e2 : enc (jP p) = encodeRune p := by rw [e]; simp [enc]
    rw [e2]
    refine scan_pass _ _ (fun c hc => ⟨fun h => ?_, fun h => ?_⟩)
    · subst h
      exact h1 (encodeRune_mem p hp 34 hc (by decide))
    · subst h
      exact h2 (encodeRune_mem p hp 92 hc (by decide))
theorem scan_jsn (r : Bt) : ∀ l : List Int, AllPt l → scanQ (enc (jsn l) ++ 34 :: r) = some (enc (jsn l), r)
  | [], _ => by
    exact scan_end r
  | p :: l, h => by
    have hp := h p (by simp)
    have ih := scan_jsn r l (fun q hq => h q (by simp [hq]))
    have e : enc (jsn (p :: l)) = enc (jP p) ++ enc (jsn l) := by rw [jsn_cons]; simp [enc]
    rw [e, List.append_assoc, scan_jP p hp, ih]
    rfl
theorem unjq_jsn (l : List Int) (h : AllPt l) : unjq (enc (jsn l)) = some (enc l) := by
  unfold unjq
  have e : 34 :: enc (jsn l) ++ [34] = enc (34 :: jsn l ++ [34]) := by
    simp only [enc, List.flatMap_cons, List.flatMap_append, List.cons_append]
    rfl
  have hv : validD (34 :: enc (jsn l) ++ [34]) = true := by
    rw [e]
    refine valid_enc _ (fun q hq => ?_)
    simp only [List.cons_append, List.mem_cons, List.mem_append, List.mem_nil_iff, or_false] at hq
    rcases hq with rfl | hq | rfl
    · exact isPt_ascii 34 (by decide)
    · exact jsn_pt h q hq
    · exact isPt_ascii 34 (by decide)
  rw [if_pos hv]
  exact unj_jsn l h
theorem text_jq (x r : Bt) (h : validD x = true) : textL (jqL x ++ r) = some (x, r) := by
  have e : jqL x ++ r = 34 :: (enc (jsn (pts x)) ++ 34 :: r) := by
    unfold jqL
    simp
  rw [e]
  unfold textL
  dsimp only
  rw [if_pos rfl, scan_jsn r _ (pts_allPt x)]
  dsimp only
  rw [unjq_jsn _ (pts_allPt x), (valid_iff x).1 h]
  rfl
theorem jq_head (x r : Bt) : ∃ t, jqL x ++ r = 34 :: t := ⟨enc (jsn (pts x)) ++ [34] ++ r, rfl⟩
theorem member_jq (x r : Bt) (h : validD x = true) : memberL (jqL x ++ [58] ++ r) = some (x, r) := by
  unfold memberL
  obtain ⟨t, ht⟩ := jq_head x ([58] ++ r)
  have hb : blanksL (jqL x ++ [58] ++ r) = jqL x ++ ([58] ++ r) := by
    rw [List.append_assoc, ht]
    exact blanks_keep (by decide) t
  rw [hb, text_jq x _ h]
  dsimp only
  rw [show ([58] : Bt) ++ r = 58 :: r from rfl, blanks_keep (by decide)]
  rfl
/-! ### Numbers -/
/-- What stands behind a number: nothing that could go on with it. -/
def Ends (r : Bt) : Prop := ∀ c, r.head? = some c → isD 10 c = false ∧ c ≠ 46 ∧ c ≠ 101 ∧ c ≠ 69 ∧ c ≠ 43 ∧ c ≠ 45
theorem dg_append {r : Bt} (h : Ends r) : ∀ a : Bt, dgL (a ++ r) = dgL a
  | [] => by
    unfold dgL
    rw [List.nil_append]
    cases r with
    | nil => rfl
    | cons c r => rw [List.takeWhile_cons_of_neg (by rw [(h c rfl).1]; decide)]; rfl
  | c :: a => by
    have ih := dg_append h a
    unfold dgL at *
    rw [List.cons_append]
    by_cases hc : isD 10 c = true
    · rw [List.takeWhile_cons_of_pos hc, List.takeWhile_cons_of_pos hc, List.length_cons, List.length_cons, ih]
    · rw [List.takeWhile_cons_of_neg hc, List.takeWhile_cons_of_neg hc]
theorem frac_append {r : Bt} (h : Ends r) : ∀ a : Bt, fracL (a ++ r) = fracL a
  | [] => by
    unfold fracL
    rw [List.nil_append]
    cases r with
    | nil => rfl
    | cons c r =>
      have hc : ¬ ((c :: r).head? = some 46) := fun e => (h c rfl).2.1 (Option.some.inj e)
      rw [if_neg hc]
      rfl
  | c :: a => by
    unfold fracL
    have e : (c :: a ++ r).drop 1 = (c :: a).drop 1 ++ r := rfl
    rw [e, dg_append h]
    rfl
theorem exps_append {r : Bt} (h : Ends r) : ∀ a : Bt, expSL (a ++ r) = expSL a
  | [] => by
    unfold expSL
    rw [List.nil_append]
    cases r with
    | nil => rfl
    | cons c r =>
      have hc : ¬ ((c :: r).head? = some 43 ∨ (c :: r).head? = some 45) := fun e => by
        rcases e with e | e
        · exact (h c rfl).2.2.2.2.1 (Option.some.inj e)
        · exact (h c rfl).2.2.2.2.2 (Option.some.inj e)
      rw [if_neg hc]
      rfl
  | c :: a => rfl
theorem exps_le (a : Bt) : expSL a ≤ a.length := by
  unfold expSL
  cases a with
  | nil => exact Nat.zero_le _
  | cons c a => split <;> simp
theorem exp_append {r : Bt} (h : Ends r) : ∀ a : Bt, expL (a ++ r) = expL a
  | [] => by
    unfold expL
    rw [List.nil_append]
    cases r with
    | nil => rfl
    | cons c r =>
      have hc : ¬ ((c :: r).head? = some 101 ∨ (c :: r).head? = some 69) := fun e => by
        rcases e with e | e
        · exact (h c rfl).2.2.1 (Option.some.inj e)
        · exact (h c rfl).2.2.2.1 (Option.some.inj e)
      rw [if_neg hc]
      rfl
  | c :: a => by
    unfold expL
    have e1 : (c :: a ++ r).drop 1 = a ++ r := rfl
    have e2 : (c :: a).drop 1 = a := rfl
    rw [e1, e2, exps_append h a]
    have e3 : ∀ k, (c :: a ++ r).drop (1 + k) = (a ++ r).drop k := fun k => by rw [Nat.add_comm]; rfl
    have e4 : ∀ k, (c :: a).drop (1 + k) = a.drop k := fun k => by rw [Nat.add_comm]; rfl
    rw [e3, e4, List.drop_append_of_le_length (exps_le a), dg_append h]
    rfl
theorem dg_le (a : Bt) : dgL a ≤ a.length := by
  unfold dgL
  exact (List.takeWhile_prefix _).length_le
theorem frac_le {a : Bt} {f : Nat} (h : fracL a = some f) : f ≤ a.length := by
  unfold fracL at h
  split at h
  · split at h
    · cases h
    · cases h
      have := dg_le (a.drop 1)
      rename_i h1 h2
      rw [List.length_drop] at this
      omega
  · cases h
    exact Nat.zero_le _
theorem num_append {r : Bt} (h : Ends r) {t : Bt} (ht : t ≠ []) : numLen (t ++ r) = numLen t := by
  have hs : signL (t ++ r) = signL t := by
    unfold signL
    cases t with
    | nil => exact absurd rfl ht
    | cons c t => rfl
  have hsl : signL t ≤ t.length := by
    unfold signL
    cases t with
    | nil => exact absurd rfl ht
    | cons c t => split <;> simp
  unfold numLen
  dsimp only
  rw [hs, List.drop_append_of_le_length hsl, dg_append h]
  by_cases h0 : dgL (t.drop (signL t)) = 0
  · rw [if_pos (.inl h0), if_pos (.inl h0)]
  · have hd := dg_le (t.drop (signL t))
    have hhd : (t.drop (signL t) ++ r).head? = (t.drop (signL t)).head? := by
      cases hx : t.drop (signL t) with
      | nil => rw [hx] at h0; exact absurd rfl h0
      | cons c x => rfl
    rw [hhd]
    rw [List.length_drop] at hd
    have h2 : ∀ k, k ≤ t.length → (t ++ r).drop k = t.drop k ++ r := fun k hk => List.drop_append_of_le_length hk
    rw [h2 _ (by omega), frac_append h]
    split
    · rfl
    · cases hf : fracL (t.drop (signL t + dgL (t.drop (signL t)))) with
      | none => rfl
      | some f =>
        have hfl := frac_le hf
        rw [List.length_drop] at hfl
        dsimp only
        rw [h2 _ (by omega), exp_append h]
theorem num_head {t : Bt} (h : numLen t ≠ 0) : ∃ c u, t = c :: u ∧ (c = 45 ∨ isD 10 c = true) := by
  cases t with
  | nil => exact absurd numLen_nil h
  | cons c u =>
    refine ⟨c, u, rfl, ?_⟩
    by_cases hc : c = 45
    · exact .inl hc
    · refine .inr (Classical.byContradiction fun hd => h ?_)
      have hs : signL (c :: u) = 0 := by
        unfold signL
        exact if_neg (fun e => hc (Option.some.inj e))
      unfold numLen
      dsimp only
      rw [hs]
      have : dgL ((c :: u).drop 0) = 0 := by
        unfold dgL
        show ((c :: u).takeWhile (isD 10)).length = 0
        rw [List.takeWhile_cons_of_neg hd]
        rfl
      rw [if_pos (.inl this)]
theorem digit_bd {c : UInt8} (h : isD 10 c = true) : 48 ≤ c.toNat ∧ c.toNat ≤ 57 := by
  unfold isD digN at h
  simp only [Bool.and_eq_true, decide_eq_true_eq] at h
  obtain ⟨h1, h2⟩ := h
  split at h1
  · rename_i hh; exact hh
  · split at h1
    · rename_i hh; rw [if_neg (by assumption), if_pos hh] at h2; omega
    · split at h1
      · rename_i hh; rw [if_neg (by assumption), if_neg (by assumption), if_pos hh] at h2; omega
      · omega
end Go.Proofs.YtchgelfomnbpaaaDoor
namespace Go.Proofs.YtchgelfomnbpaaaDoor
open Go.Lib

theorem right_cases {depth : Nat} {k : Int} {t : Bt} {ns : List Bt} {l : List JV} (h : rightJ depth (.mk k t ns l) = true) :
    ((k = 0 ∨ k = 1 ∨ k = 2) ∧ t = [] ∧ ns = [] ∧ l = []) ∨ (k = 3 ∧ ns = [] ∧ l = [] ∧ t ≠ [] ∧ numLen t = t.length) ∨ (k = 4 ∧ ns = [] ∧ l = [] ∧ validD t = true) ∨ (k = 5 ∧ t = [] ∧ ns = [] ∧ depth ≠ 24 ∧ rightsJ (depth + 1) l = true) ∨ (k = 6 ∧ t = [] ∧ ns.length = l.length ∧ ns.all validD = true ∧ depth ≠ 24 ∧ rightsJ (depth + 1) l = true) := by
  rw [rightJ] at h
  split at h
  · cases h
  · rename_i h1
    split at h
    · cases h
    · rename_i h2
      have hl : k < 5 → l = [] := fun h => List.eq_nil_of_length_eq_zero (Nat.eq_zero_of_not_pos fun h0 => h2 (.inl ⟨h, h0⟩))
      have hn : k ≠ 6 → ns = [] := fun h => List.eq_nil_of_length_eq_zero (Nat.eq_zero_of_not_pos fun h0 => h2 (.inr (.inl ⟨h, h0⟩)))
      split at h
      · rename_i h3
        have := of_decide_eq_true h
        exact .inr (.inl ⟨h3, hn (by omega), hl (by omega), this.1, this.2⟩)
      · rename_i h3
        split at h
        · rename_i h4
          exact .inr (.inr (.inl ⟨h4, hn (by omega), hl (by omega), h⟩))
        · rename_i h4
          split at h
          · cases h
          · rename_i h5
            have ht : t = [] := Classical.byContradiction fun h' => h5 (.inl h')
            simp only [Bool.and_eq_true, Bool.or_eq_true, decide_eq_true_eq] at h
            obtain ⟨ha, hb⟩ := h
            have hk : k = 0 ∨ k = 1 ∨ k = 2 ∨ k = 5 ∨ k = 6 := by omega
            rcases hk with h0 | h0 | h0 | h0 | h0
            · exact .inl ⟨.inl h0, ht, hn (by omega), hl (by omega)⟩
            · exact .inl ⟨.inr (.inl h0), ht, hn (by omega), hl (by omega)⟩
            · exact .inl ⟨.inr (.inr h0), ht, hn (by omega), hl (by omega)⟩
            · exact .inr (.inr (.inr (.inl ⟨h0, ht, hn (by omega), fun hd => h5 (.inr ⟨by omega, hd⟩), hb⟩)))
            · refine .inr (.inr (.inr (.inr ⟨h0, ht, ?_, ?_, fun hd => h5 (.inr ⟨by omega, hd⟩), hb⟩)))
              · exact Classical.byContradiction fun hne => h2 (.inr (.inr ⟨h0, hne⟩))
              · rcases ha with h6 | h6
                · exact absurd h0 h6
                · exact h6
theorem pre_ne {w c : UInt8} (h : w ≠ c) (ws x : Bt) : List.isPrefixOf (w :: ws) (c :: x) = false := by
  show (w == c && _) = false
  rw [show (w == c) = false from beq_eq_false_iff_ne.2 h]
  rfl
theorem pre_self (w r : Bt) : w.isPrefixOf (w ++ r) = true := by
  rw [List.isPrefixOf_iff_prefix]
  exact List.prefix_append w r
section
variable (lp : LoopF) (depth : Nat) (r : Bt)
theorem valS_null : valS lp depth (nullW ++ r) = .ok (.mk 0 [] [] [], r) := by
  have hb : blanksL (nullW ++ r) = nullW ++ r := blanks_keep (by decide) _
  unfold valS
  rw [hb]
  dsimp only
  rw [if_pos (pre_self _ _)]
  rfl
theorem valS_false : valS lp depth (falseW ++ r) = .ok (.mk 1 [] [] [], r) := by
  have hb : blanksL (falseW ++ r) = falseW ++ r := blanks_keep (by decide) _
  have h1 : nullW.isPrefixOf (falseW ++ r) = false := pre_ne (by decide) _ _
  unfold valS
  rw [hb]
  dsimp only
  rw [h1, if_neg (by decide), if_pos (pre_self _ _)]
  rfl
theorem valS_true : valS lp depth (trueW ++ r) = .ok (.mk 2 [] [] [], r) := by
  have hb : blanksL (trueW ++ r) = trueW ++ r := blanks_keep (by decide) _
  have h1 : nullW.isPrefixOf (trueW ++ r) = false := pre_ne (by decide) _ _
  have h2 : falseW.isPrefixOf (trueW ++ r) = false := pre_ne (by decide) _ _
  unfold valS
  rw [hb]
  dsimp only
  rw [h1, h2, if_neg (by decide), if_neg (by decide), if_pos (pre_self _ _)]
  rfl
/-- Of a first byte that begins no word. -/
theorem valS_other {c : UInt8} {x : Bt} (hb : isBl c = false) (h1 : c ≠ 110) (h2 : c ≠ 102) (h3 : c ≠ 116) : valS lp depth (c :: x) =
    if c = 34 then (match textL (c :: x) with | none => .error 70 | some (y, r) => .ok (.mk 4 y [] [], r))
    else if c ≠ 91 ∧ c ≠ 123 then (if numLen (c :: x) = 0 then .error 70 else .ok (.mk 3 ((c :: x).take (numLen (c :: x))) [] [], (c :: x).drop (numLen (c :: x))))
    else if depth = 24 then .error 71
    else if (blanksL x).head? = some (endC (decide (c = 123))) then .ok (.mk (kindC (decide (c = 123))) [] [] [], (blanksL x).drop 1)
    else lp depth (decide (c = 123)) [] [] (blanksL x) := by
  have e1 : nullW.isPrefixOf (c :: x) = false := pre_ne (Ne.symm h1) _ _
  have e2 : falseW.isPrefixOf (c :: x) = false := pre_ne (Ne.symm h2) _ _
  have e3 : trueW.isPrefixOf (c :: x) = false := pre_ne (Ne.symm h3) _ _
  unfold valS
  rw [blanks_keep hb]
  dsimp only
  rw [e1, e2, e3]
  simp only [Bool.false_eq_true, if_false, List.head?_cons, Option.some.injEq, ne_eq, List.drop_succ_cons, List.drop_zero]
  try rfl
end
theorem ends_comma (x : Bt) : Ends (44 :: x) := fun c h => by cases h; decide
theorem ends_end (obj : Bool) (x : Bt) : Ends (endC obj :: x) := fun c h => by
  cases obj <;> (cases h; decide)
theorem ends_nil : Ends [] := fun c h => by cases h
theorem rest_cons (obj : Bool) (ns : List Bt) (v : JV) (l : List JV) : restJ obj ns (v :: l) = 44 :: joinJ obj ns (v :: l) := by rw [restJ, joinJ]
theorem num_first {c : UInt8} (h : c = 45 ∨ isD 10 c = true) : isBl c = false ∧ c ≠ 110 ∧ c ≠ 102 ∧ c ≠ 116 ∧ c ≠ 34 ∧ c ≠ 91 ∧ c ≠ 123 ∧ c ≠ 93 ∧ c ≠ 125 := by
  rcases h with rfl | h
  · decide
  · have hd := digit_bd h
    have ne : ∀ d : UInt8, d.toNat < 48 ∨ 57 < d.toNat → c ≠ d := fun d hd' e => by subst e; omega
    refine ⟨?_, ne 110 (by decide), ne 102 (by decide), ne 116 (by decide), ne 34 (by decide), ne 91 (by decide), ne 123 (by decide), ne 93 (by decide), ne 125 (by decide)⟩
    unfold isBl
    rw [beq_eq_false_iff_ne.2 (ne 32 (by decide)), beq_eq_false_iff_ne.2 (ne 9 (by decide)), beq_eq_false_iff_ne.2 (ne 10 (by decide)), beq_eq_false_iff_ne.2 (ne 13 (by decide))]
    rfl
/-- What is written begins with no blank and closes nothing. -/
theorem print_head {depth : Nat} {v : JV} (h : rightJ depth v = true) : ∃ c t, printJ v = c :: t ∧ isBl c = false ∧ c ≠ 93 ∧ c ≠ 125 := by
  obtain ⟨k, t, ns, l⟩ := v
  have hr := right_cases h
  rw [printJ]
  rcases hr with ⟨hk, _⟩ | ⟨hk, _, _, ht, hn⟩ | ⟨hk, _⟩ | ⟨hk, _⟩ | ⟨hk, _⟩
  · rcases hk with rfl | rfl | rfl
    · exact ⟨110, [117, 108, 108], rfl, by decide, by decide, by decide⟩
    · exact ⟨102, [97, 108, 115, 101], rfl, by decide, by decide, by decide⟩
    · exact ⟨116, [114, 117, 101], rfl, by decide, by decide, by decide⟩
  · subst hk
    have hn0 : numLen t ≠ 0 := by
      rw [hn]
      intro e
      exact ht (List.eq_nil_of_length_eq_zero e)
    obtain ⟨c, u, rfl, hc⟩ := num_head hn0
    have := num_first hc
    exact ⟨c, u, rfl, this.1, this.2.2.2.2.2.2.2.1, this.2.2.2.2.2.2.2.2⟩
  · subst hk
    exact ⟨34, _, rfl, by decide, by decide, by decide⟩
  · subst hk
    exact ⟨91, _, rfl, by decide, by decide, by decide⟩
  · subst hk
    exact ⟨123, _, rfl, by decide, by decide, by decide⟩
theorem join_head {depth : Nat} {obj : Bool} {ns : List Bt} {v : JV} {l : List JV} (h : rightJ depth v = true) : ∃ c t, joinJ obj ns (v :: l) = c :: t ∧ isBl c = false ∧ c ≠ endC obj := by
  obtain ⟨c, t, e, h1, h2, h3⟩ := print_head h
  rw [joinJ]
  cases obj with
  | true => exact ⟨34, _, rfl, by decide, by decide⟩
  | false =>
    rw [e]
    exact ⟨c, _, rfl, h1, h2⟩
theorem rtJ : ∀ n, (∀ v depth r, rightJ depth v = true → Ends r → 2 * (printJ v ++ r).length + 1 ≤ n → valJ n depth (printJ v ++ r) = .ok (v, r)) ∧
    (∀ l depth obj ns0 vs0 ns r, l ≠ [] → rightsJ (depth + 1) l = true → (obj = true → ns.length = l.length ∧ ns.all validD = true) → (obj = false → ns = []) → 2 * (joinJ obj ns l ++ endC obj :: r).length + 2 ≤ n → loopJ n depth obj ns0 vs0 (joinJ obj ns l ++ endC obj :: r) = .ok (.mk (kindC obj) [] (ns0 ++ ns) (vs0 ++ l), r))
  | 0 => ⟨fun _ _ _ _ _ h => by omega, fun _ _ _ _ _ _ _ _ _ _ _ h => by omega⟩
  | n + 1 => by
    obtain ⟨hV, hL⟩ := rtJ n
    refine ⟨fun v depth r hr hE hn => ?_, fun l depth obj ns0 vs0 ns r hne hr hobj hlist hn => ?_⟩
    · rw [valJ_succ]
      obtain ⟨k, t, ns, l⟩ := v
      have hc := right_cases hr
      rw [printJ] at hn ⊢
      rcases hc with ⟨hk, rfl, rfl, rfl⟩ | ⟨rfl, rfl, rfl, ht, hnt⟩ | ⟨rfl, rfl, rfl, hv⟩ | ⟨rfl, rfl, rfl, hd, hl⟩ | ⟨rfl, rfl, hlen, hall, hd, hl⟩
      · rcases hk with rfl | rfl | rfl
        · exact valS_null _ _ _
        · exact valS_false _ _ _
        · exact valS_true _ _ _
      · have hn0 : numLen t ≠ 0 := by
          rw [hnt]
          intro e
          exact ht (List.eq_nil_of_length_eq_zero e)
        have hna := num_append hE ht
        obtain ⟨c, u, rfl, hcc⟩ := num_head hn0
        obtain ⟨f1, f2, f3, f4, f5, f6, f7, _, _⟩ := num_first hcc
        show valS _ depth (c :: (u ++ r)) = _
        rw [valS_other _ _ f1 f2 f3 f4, if_neg f5, if_pos ⟨f6, f7⟩]
        rw [show c :: (u ++ r) = c :: u ++ r from rfl, hna, if_neg hn0, hnt, List.take_left, List.drop_left]
      · obtain ⟨u, hu⟩ := jq_head t r
        show valS _ depth (jqL t ++ r) = _
        rw [hu, valS_other _ _ (by decide) (by decide) (by decide) (by decide), if_pos rfl, ← hu, text_jq t r hv]
      · show valS _ depth (91 :: (joinJ false [] l ++ [93]) ++ r) = _
        have e : 91 :: (joinJ false [] l ++ [93]) ++ r = 91 :: (joinJ false [] l ++ endC false :: r) := by simp [endC]
        rw [e, valS_other _ _ (by decide) (by decide) (by decide) (by decide), if_neg (by decide), if_neg (by decide), if_neg hd]
        cases l with
        | nil => rfl
        | cons v l =>
          have hr1 : rightJ (depth + 1) v = true := by
            rw [rightsJ] at hl
            exact (Bool.and_eq_true _ _ ▸ hl).1
          obtain ⟨c, x, ej, hb, hce⟩ := join_head (obj := false) (ns := []) (l := l) hr1
          have hbl : blanksL (joinJ false [] (v :: l) ++ endC false :: r) = joinJ false [] (v :: l) ++ endC false :: r := by
            rw [ej]
            exact blanks_keep hb _
          rw [hbl]
          have hnh : ¬ ((joinJ false [] (v :: l) ++ endC false :: r).head? = some (endC (decide ((91 : UInt8) = 123)))) := by
            rw [ej]
            intro h'
            exact hce (Option.some.inj h')
          rw [if_neg hnh]
          have hx := hL (v :: l) depth false [] [] [] r (by simp) hl (fun h => by cases h) (fun _ => rfl) (by
            have e2 : (91 :: (joinJ false [] (v :: l) ++ [93]) ++ r).length = (joinJ false [] (v :: l) ++ endC false :: r).length + 1 := by rw [e]; rfl
            have hn' : 2 * (91 :: (joinJ false [] (v :: l) ++ [93]) ++ r).length + 1 ≤ n + 1 := hn
            omega)
          exact hx
      · show valS _ depth (123 :: (joinJ true ns l ++ [125]) ++ r) = _
        have e : 123 :: (joinJ true ns l ++ [125]) ++ r = 123 :: (joinJ true ns l ++ endC true :: r) := by simp [endC]
        rw [e, valS_other _ _ (by decide) (by decide) (by decide) (by decide), if_neg (by decide), if_neg (by decide), if_neg hd]
        cases l with
        | nil =>
          have : ns = [] := List.eq_nil_of_length_eq_zero hlen
          subst this
          rfl
        | cons v l =>
          have hr1 : rightJ (depth + 1) v = true := by
            rw [rightsJ] at hl
            exact (Bool.and_eq_true _ _ ▸ hl).1
          obtain ⟨c, x, ej, hb, hce⟩ := join_head (obj := true) (ns := ns) (l := l) hr1
          have hbl : blanksL (joinJ true ns (v :: l) ++ endC true :: r) = joinJ true ns (v :: l) ++ endC true :: r := by
            rw [ej]
            exact blanks_keep hb _
          rw [hbl]
          have hnh : ¬ ((joinJ true ns (v :: l) ++ endC true :: r).head? = some (endC (decide ((123 : UInt8) = 123)))) := by
            rw [ej]
            intro h'
            exact hce (Option.some.inj h')
          rw [if_neg hnh]
          have hx := hL (v :: l) depth true [] [] ns r (by simp) hl (fun _ => ⟨hlen, hall⟩) (fun h => by cases h) (by
            have e2 : (123 :: (joinJ true ns (v :: l) ++ [125]) ++ r).length = (joinJ true ns (v :: l) ++ endC true :: r).length + 1 := by rw [e]; rfl
            have hn' : 2 * (123 :: (joinJ true ns (v :: l) ++ [125]) ++ r).length + 1 ≤ n + 1 := hn
            omega)
          exact hx
    · rw [loopJ_succ]
      cases l with
      | nil => exact absurd rfl hne
      | cons v l =>
        rw [rightsJ] at hr
        have hr1 : rightJ (depth + 1) v = true := (Bool.and_eq_true _ _ ▸ hr).1
        have hr2 : rightsJ (depth + 1) l = true := (Bool.and_eq_true _ _ ▸ hr).2
        obtain ⟨x, ns', M, hM, hns, hnm, hlen', hall'⟩ : ∃ (x : List Bt) (ns' : List Bt) (M : Bt), joinJ obj ns (v :: l) = M ++ printJ v ++ restJ obj ns' l ∧ ns = x ++ ns' ∧ (∀ y, namesL obj ns0 (M ++ (printJ v ++ y)) = some (ns0 ++ x, printJ v ++ y)) ∧ (obj = true → ns'.length = l.length ∧ ns'.all validD = true) ∧ (obj = false → ns' = []) := by
          cases obj with
          | false =>
            have := hlist rfl
            subst this
            refine ⟨[], [], [], by rw [joinJ]; rfl, rfl, fun y => ?_, (fun h => by cases h), fun _ => rfl⟩
            unfold namesL
            rw [List.append_nil]
            rfl
          | true =>
            obtain ⟨h1, h2⟩ := hobj rfl
            cases ns with
            | nil => cases h1
            | cons a ns =>
              have hva : validD a = true := (List.all_eq_true.1 h2) a (by simp)
              refine ⟨[a], ns, jqL a ++ [58], by rw [joinJ]; rfl, rfl, fun y => ?_, fun _ => ⟨by simpa using h1, List.all_eq_true.2 fun z hz => (List.all_eq_true.1 h2) z (by simp [hz])⟩, fun h => by cases h⟩
              unfold namesL
              rw [if_pos rfl, member_jq a _ hva]
              rfl
        obtain ⟨R, hR⟩ : ∃ R, restJ obj ns' l ++ endC obj :: r = R := ⟨_, rfl⟩
        have e : joinJ obj ns (v :: l) ++ endC obj :: r = M ++ (printJ v ++ R) := by rw [hM, ← hR]; simp
        rw [e] at hn ⊢
        have hRE : Ends R := by
          rw [← hR]
          cases l with
          | nil => rw [restJ]; exact ends_end obj r
          | cons v' l' => rw [rest_cons]; exact ends_comma _
        have hv := hV v (depth + 1) R hr1 hRE (by
          rw [List.length_append] at hn
          omega)
        unfold loopS
        rw [hnm R]
        dsimp only
        rw [hv]
        dsimp only
        cases l with
        | nil =>
          rw [restJ] at hR
          have hR' : endC obj :: r = R := hR
          have hbl : blanksL R = endC obj :: r := by
            rw [← hR']
            exact blanks_keep (by cases obj <;> decide) r
          have hn0 : ns' = [] := by
            cases obj with
            | false => exact hall' rfl
            | true => exact List.eq_nil_of_length_eq_zero (hlen' rfl).1
          rw [hbl]
          dsimp only
          rw [if_pos rfl, hns, hn0, List.append_nil]
        | cons v' l' =>
          rw [rest_cons] at hR
          have hR' : 44 :: (joinJ obj ns' (v' :: l') ++ endC obj :: r) = R := by rw [← hR]; rfl
          have hbl : blanksL R = 44 :: (joinJ obj ns' (v' :: l') ++ endC obj :: r) := by
            rw [← hR']
            exact blanks_keep (by decide) _
          rw [hbl]
          dsimp only
          rw [if_neg (by cases obj <;> decide), if_neg (by decide)]
          have hx := hL (v' :: l') depth obj (ns0 ++ x) (vs0 ++ [v]) ns' r (by simp) hr2 hlen' hall' (by
            rw [← hR'] at hn
            simp only [List.length_append, List.length_cons] at hn ⊢
            omega)
          rw [hx, hns]
          simp
end Go.Proofs.YtchgelfomnbpaaaDoor
namespace Go.Proofs.YtchgelfomnbpaaaDoor
open Go.Lib

theorem blanks_app {s : Bt} (t : Bt) (h : blanksL s ≠ []) : blanksL (s ++ t) = blanksL s ++ t := by
  induction s with
  | nil => exact absurd rfl h
  | cons c s ih =>
    by_cases hc : isBl c = true
    · have e1 : blanksL (c :: s) = blanksL s := by unfold blanksL; exact List.dropWhile_cons_of_pos hc
      have e2 : blanksL (c :: s ++ t) = blanksL (s ++ t) := by
        show blanksL (c :: (s ++ t)) = _
        unfold blanksL
        exact List.dropWhile_cons_of_pos hc
      rw [e1] at h ⊢
      rw [e2]
      exact ih h
    · have hf : isBl c = false := by simpa using hc
      rw [blanks_keep hf]
      exact blanks_keep hf _
theorem blanks_none {s : Bt} (t : Bt) (h : blanksL s = []) : blanksL (s ++ t) = blanksL t := by
  induction s with
  | nil => rfl
  | cons c s ih =>
    by_cases hc : isBl c = true
    · have e1 : blanksL (c :: s) = blanksL s := by unfold blanksL; exact List.dropWhile_cons_of_pos hc
      have e2 : blanksL (c :: s ++ t) = blanksL (s ++ t) := by
        show blanksL (c :: (s ++ t)) = _
        unfold blanksL
        exact List.dropWhile_cons_of_pos hc
      rw [e1] at h
      rw [e2]
      exact ih h
    · have hf : isBl c = false := by simpa using hc
      rw [blanks_keep hf] at h
      cases h
theorem scan_app (t : Bt) : ∀ (s a b : Bt), scanQ s = some (a, b) → scanQ (s ++ t) = some (a, b ++ t)
  | [], a, b, h => by simp [scanQ] at h
  | c :: r, a, b, h => by
    by_cases h34 : c = 34
    · subst h34
      rw [scan_end] at h
      cases h
      exact scan_end _
    · by_cases h92 : c = 92
      · subst h92
        cases r with
        | nil => simp [scanQ] at h
        | cons d r =>
          rw [scan_two] at h
          cases hr : scanQ r with
          | none => rw [hr] at h; cases h
          | some y =>
            obtain ⟨a', b'⟩ := y
            rw [hr] at h
            cases h
            show scanQ (92 :: d :: (r ++ t)) = _
            rw [scan_two, scan_app t r a' b' hr]
            rfl
      · rw [scan_one h34 h92] at h
        cases hr : scanQ r with
        | none => rw [hr] at h; cases h
        | some y =>
          obtain ⟨a', b'⟩ := y
          rw [hr] at h
          cases h
          show scanQ (c :: (r ++ t)) = _
          rw [scan_one h34 h92, scan_app t r a' b' hr]
          rfl
theorem text_app {s x r : Bt} (t : Bt) (h : textL s = some (x, r)) : textL (s ++ t) = some (x, r ++ t) := by
  unfold textL at h ⊢
  cases s with
  | nil => cases h
  | cons c s =>
    dsimp only [List.cons_append] at h ⊢
    split at h
    · rename_i hc
      rw [if_pos hc]
      cases hs : scanQ s with
      | none => rw [hs] at h; cases h
      | some y =>
        obtain ⟨a, b⟩ := y
        rw [hs] at h
        rw [scan_app t s a b hs]
        dsimp only at h ⊢
        cases hu : unjq a with
        | none => rw [hu] at h; cases h
        | some z =>
          rw [hu] at h
          cases h
          rfl
    · cases h
theorem text_ne {s x r : Bt} (h : textL s = some (x, r)) : s ≠ [] := fun e => by subst e; cases h
theorem member_app {s x r : Bt} (t : Bt) (h : memberL s = some (x, r)) : memberL (s ++ t) = some (x, r ++ t) := by
  unfold memberL at h ⊢
  cases ht : textL (blanksL s) with
  | none => rw [ht] at h; cases h
  | some y =>
    obtain ⟨x', r'⟩ := y
    rw [ht] at h
    rw [blanks_app t (text_ne ht), text_app t ht]
    dsimp only at h ⊢
    cases hb : blanksL r' with
    | nil => rw [hb] at h; cases h
    | cons c r2 =>
      rw [hb] at h
      rw [blanks_app t (by rw [hb]; simp), hb]
      dsimp only [List.cons_append] at h ⊢
      split at h
      · rename_i hc
        cases h
        rw [if_pos hc]
      · cases h
theorem names_app {obj : Bool} {ns ns' : List Bt} {s r : Bt} (t : Bt) (h : namesL obj ns s = some (ns', r)) : namesL obj ns (s ++ t) = some (ns', r ++ t) := by
  unfold namesL at h ⊢
  cases obj with
  | false => cases h; rfl
  | true =>
    cases hm : memberL s with
    | none => rw [hm] at h; cases h
    | some y =>
      obtain ⟨x, r'⟩ := y
      rw [hm] at h
      cases h
      rw [if_pos rfl, member_app t hm]
      rfl
theorem pre_app {w s : Bt} (t : Bt) (h : w.isPrefixOf s = true) : w.isPrefixOf (s ++ t) = true := by
  rw [List.isPrefixOf_iff_prefix] at h ⊢
  exact h.trans (List.prefix_append s t)
theorem pre_first {w c : UInt8} {ws x : Bt} (h : List.isPrefixOf (w :: ws) (c :: x) = true) : c = w := Classical.byContradiction fun h' => by
  rw [pre_ne (Ne.symm h')] at h
  cases h
theorem valS_blanks (lp : LoopF) (depth : Nat) (s : Bt) : valS lp depth (blanksL s) = valS lp depth s := by
  unfold valS
  rw [blanks_idem]
/-- How a value begins that can be read. -/
theorem valS_first {lp : LoopF} {depth : Nat} {s : Bt} {v : JV} {r : Bt} (h : valS lp depth s = .ok (v, r)) :
    (∃ x, s = nullW ++ x ∧ v = .mk 0 [] [] [] ∧ r = x) ∨ (∃ x, s = falseW ++ x ∧ v = .mk 1 [] [] [] ∧ r = x) ∨ (∃ x, s = trueW ++ x ∧ v = .mk 2 [] [] [] ∧ r = x) ∨ (∃ c x, s = c :: x ∧ isBl c = false ∧ c ≠ 110 ∧ c ≠ 102 ∧ c ≠ 116) ∨ (∃ c x, s = c :: x ∧ isBl c = true) := by
  cases s with
  | nil =>
    unfold valS at h
    have : blanksL [] = [] := rfl
    rw [this] at h
    simp [nullW, falseW, trueW, numLen_nil] at h
  | cons c x =>
    by_cases hb : isBl c = true
    · exact .inr (.inr (.inr (.inr ⟨c, x, rfl, hb⟩)))
    · have hf : isBl c = false := by simpa using hb
      by_cases h1 : nullW.isPrefixOf (c :: x) = true
      · obtain ⟨y, hy⟩ := List.isPrefixOf_iff_prefix.1 h1
        rw [← hy, valS_null] at h
        cases h
        exact .inl ⟨_, hy.symm, rfl, rfl⟩
      · by_cases h2 : falseW.isPrefixOf (c :: x) = true
        · obtain ⟨y, hy⟩ := List.isPrefixOf_iff_prefix.1 h2
          rw [← hy, valS_false] at h
          cases h
          exact .inr (.inl ⟨_, hy.symm, rfl, rfl⟩)
        · by_cases h3 : trueW.isPrefixOf (c :: x) = true
          · obtain ⟨y, hy⟩ := List.isPrefixOf_iff_prefix.1 h3
            rw [← hy, valS_true] at h
            cases h
            exact .inr (.inr (.inl ⟨_, hy.symm, rfl, rfl⟩))
          · have bad : (c = 110 ∨ c = 102 ∨ c = 116) → False := fun hc => by
              have hn : numLen (c :: x) = 0 := Classical.byContradiction fun h0 => by
                obtain ⟨c', u, e, hd⟩ := num_head h0
                cases e
                have := num_first hd
                rcases hc with hc | hc | hc
                · exact this.2.1 hc
                · exact this.2.2.1 hc
                · exact this.2.2.2.1 hc
              have h34 : c ≠ 34 ∧ c ≠ 91 ∧ c ≠ 123 := by rcases hc with rfl | rfl | rfl <;> decide
              unfold valS at h
              rw [blanks_keep hf] at h
              dsimp only at h
              rw [if_neg h1, if_neg h2, if_neg h3, if_neg (show ¬ ((c :: x).head? = some 34) from fun e => h34.1 (Option.some.inj e)), if_pos (show (c :: x).head? ≠ some 91 ∧ (c :: x).head? ≠ some 123 from ⟨fun e => h34.2.1 (Option.some.inj e), fun e => h34.2.2 (Option.some.inj e)⟩), if_pos hn] at h
              cases h
            exact .inr (.inr (.inr (.inl ⟨c, x, rfl, hf, fun e => bad (.inl e), fun e => bad (.inr (.inl e)), fun e => bad (.inr (.inr e))⟩)))
theorem blanks_head {s c x} (h : blanksL s = c :: x) : isBl c = false := by
  have := blanks_idem s
  rw [h] at this
  cases hc : isBl c with
  | false => rfl
  | true =>
    have e : blanksL (c :: x) = blanksL x := by unfold blanksL; exact List.dropWhile_cons_of_pos hc
    rw [e] at this
    have h2 := blanks_le x
    rw [this] at h2
    simp only [List.length_cons] at h2
    omega
theorem exp_le {a : Bt} {f : Nat} (h : expL a = some f) : f ≤ a.length := by
  unfold expL at h
  split at h
  · split at h
    · cases h
    · cases h
      have := dg_le (a.drop (1 + expSL (a.drop 1)))
      rename_i h1 h2
      rw [List.length_drop] at this
      omega
  · cases h
    exact Nat.zero_le _
theorem numLen_le (t : Bt) : numLen t ≤ t.length := by
  have hsl : signL t ≤ t.length := by
    unfold signL
    cases t with
    | nil => exact Nat.zero_le _
    | cons c t => split <;> simp
  have hd := dg_le (t.drop (signL t))
  rw [List.length_drop] at hd
  unfold numLen
  dsimp only
  split
  · exact Nat.zero_le _
  · cases hf : fracL (t.drop (signL t + dgL (t.drop (signL t)))) with
    | none => exact Nat.zero_le _
    | some f =>
      have hfl := frac_le hf
      rw [List.length_drop] at hfl
      dsimp only
      cases he : expL (t.drop (signL t + dgL (t.drop (signL t)) + f)) with
      | none => exact Nat.zero_le _
      | some e =>
        have hel := exp_le he
        rw [List.length_drop] at hel
        dsimp only
        omega
theorem valS_app {lp lp' : LoopF} {depth : Nat} {s t : Bt} (hE : Ends t) (hlnil : ∀ obj v r, lp depth obj [] [] [] ≠ .ok (v, r)) (hl : ∀ obj x v r, x.length < s.length → lp depth obj [] [] x = .ok (v, r) → lp' depth obj [] [] (x ++ t) = .ok (v, r ++ t)) {v : JV} {r : Bt} (h : valS lp depth s = .ok (v, r)) : valS lp' depth (s ++ t) = .ok (v, r ++ t) := by
  have hbl := blanks_le s
  rw [← valS_blanks] at h
  have hne : blanksL s ≠ [] := fun e => by
    rw [e] at h
    rcases valS_first h with ⟨x, hx, _⟩ | ⟨x, hx, _⟩ | ⟨x, hx, _⟩ | ⟨c, x, hx, _⟩ | ⟨c, x, hx, _⟩ <;> cases hx
  rw [← valS_blanks lp', blanks_app t hne]
  rcases valS_first h with ⟨x, hx, rfl, rfl⟩ | ⟨x, hx, rfl, rfl⟩ | ⟨x, hx, rfl, rfl⟩ | ⟨c, x, hx, hb, h1, h2, h3⟩ | ⟨c, x, hx, hb⟩
  · rw [hx, List.append_assoc]; exact valS_null _ _ _
  · rw [hx, List.append_assoc]; exact valS_false _ _ _
  · rw [hx, List.append_assoc]; exact valS_true _ _ _
  · rw [hx] at h hbl ⊢
    rw [valS_other _ _ hb h1 h2 h3] at h
    rw [List.cons_append, valS_other _ _ hb h1 h2 h3]
    split at h
    · rename_i h34
      rw [if_pos h34]
      cases ht : textL (c :: x) with
      | none => rw [ht] at h; cases h
      | some y =>
        obtain ⟨y, r'⟩ := y
        rw [ht] at h
        cases h
        rw [show c :: (x ++ t) = c :: x ++ t from rfl, text_app t ht]
    · rename_i h34
      rw [if_neg h34]
      split at h
      · rename_i hbr
        rw [if_pos hbr]
        split at h
        · cases h
        · rename_i hn
          have hna := num_append hE (show c :: x ≠ [] by simp)
          rw [show c :: (x ++ t) = c :: x ++ t from rfl, hna, if_neg hn]
          cases h
          have hle := numLen_le (c :: x)
          rw [List.take_append_of_le_length hle, List.drop_append_of_le_length hle]
      · rename_i hbr
        rw [if_neg hbr]
        split at h
        · cases h
        · rename_i hd
          rw [if_neg hd]
          have hbx := blanks_le x
          split at h
          · rename_i he
            have hxn : blanksL x ≠ [] := fun e => by rw [e] at he; cases he
            rw [blanks_app t hxn]
            cases hx2 : blanksL x with
            | nil => exact absurd hx2 hxn
            | cons d y =>
              rw [hx2] at he h
              cases h
              rw [if_pos (show (d :: y ++ t).head? = _ from he)]
              rfl
          · rename_i he
            have hxn : blanksL x ≠ [] := fun e => by
              rw [e] at h
              exact absurd h (hlnil (decide (c = 123)) v r)
            rw [blanks_app t hxn]
            cases hx2 : blanksL x with
            | nil => exact absurd hx2 hxn
            | cons d y =>
              rw [hx2] at he h hbx
              rw [if_neg (show ¬ ((d :: y ++ t).head? = _) from he)]
              exact hl _ _ _ _ (by simp at hbl hbx ⊢; omega) h
  · exact absurd (blanks_head hx) (by rw [hb]; decide)
end Go.Proofs.YtchgelfomnbpaaaDoor
