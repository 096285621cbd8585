/-
  Of the proofs of layer 7 (values of JSON): the parts JsU JsV JsW JA JB JC. No conditions.
-/
import Derived.Test.YtchgelfomnbpaaaDoorZ04
import Derived.Test.YtchgelfomnbpaaaDoorZ01
namespace Go.Proofs.YtchgelfomnbpaaaDoor
open Go.Lib

theorem valS_nil (lp : LoopF) (depth : Nat) : valS lp depth [] = .error 70 := by
  unfold valS
  have : blanksL [] = [] := rfl
  rw [this]
  simp [nullW, falseW, trueW, numLen_nil]
theorem valJ_nil : ∀ n depth, valJ n depth [] = .error 70
  | 0, depth => by rw [valJ]
  | n + 1, depth => by rw [valJ_succ]; exact valS_nil _ _
theorem loopJ_nil : ∀ n depth obj ns vs, loopJ n depth obj ns vs [] = .error 70
  | 0, depth, obj, ns, vs => by rw [loopJ]
  | n + 1, depth, obj, ns, vs => by
    rw [loopJ_succ]
    unfold loopS
    cases obj with
    | true => rfl
    | false =>
      have e : namesL false ns [] = some (ns, []) := rfl
      rw [e]
      dsimp only
      rw [valJ_nil]
theorem loopS_app {vj vj' : ValF} {lp lp' : LoopF} {depth : Nat} {obj : Bool} {ns : List Bt} {vs : List JV} {s t : Bt} (hv : ∀ x v r, x.length ≤ s.length → vj (depth + 1) x = .ok (v, r) → r.length < x.length ∧ vj' (depth + 1) (x ++ t) = .ok (v, r ++ t)) (hl : ∀ ns vs x v r, x.length < s.length → lp depth obj ns vs x = .ok (v, r) → lp' depth obj ns vs (x ++ t) = .ok (v, r ++ t)) {v : JV} {r : Bt} (h : loopS vj lp depth obj ns vs s = .ok (v, r)) : loopS vj' lp' depth obj ns vs (s ++ t) = .ok (v, r ++ t) := by
  unfold loopS at h ⊢
  cases hn : namesL obj ns s with
  | none => rw [hn] at h; cases h
  | some y =>
    obtain ⟨ns', x⟩ := y
    have h1 := names_len hn
    rw [hn] at h
    rw [names_app t hn]
    dsimp only at h ⊢
    cases hj : vj (depth + 1) x with
    | error e => rw [hj] at h; cases h
    | ok z =>
      obtain ⟨v', u⟩ := z
      obtain ⟨h2, h3⟩ := hv x v' u h1 hj
      rw [hj] at h
      rw [h3]
      dsimp only at h ⊢
      have hbu := blanks_le u
      cases hb : blanksL u with
      | nil => rw [hb] at h; cases h
      | cons c r2 =>
        rw [hb] at h hbu
        rw [blanks_app t (by rw [hb]; simp), hb]
        simp only [List.length_cons] at hbu
        dsimp only [List.cons_append] at h ⊢
        split at h
        · rename_i hc
          cases h
          rw [if_pos hc]
        · rename_i hc
          rw [if_neg hc]
          split at h
          · cases h
          · rename_i hc2
            rw [if_neg hc2]
            exact hl _ _ _ _ _ (by omega) h
theorem extJ {t : Bt} (hE : Ends t) : ∀ n m, (∀ depth s v r, valJ n depth s = .ok (v, r) → 2 * (s ++ t).length + 1 ≤ m → valJ m depth (s ++ t) = .ok (v, r ++ t)) ∧ (∀ depth obj ns vs s v r, loopJ n depth obj ns vs s = .ok (v, r) → 2 * (s ++ t).length + 2 ≤ m → loopJ m depth obj ns vs (s ++ t) = .ok (v, r ++ t))
  | 0, m => ⟨(fun depth s v r h => by rw [valJ] at h; cases h), (fun depth obj ns vs s v r h => by rw [loopJ] at h; cases h)⟩
  | n + 1, 0 => ⟨fun _ _ _ _ _ h => by omega, fun _ _ _ _ _ _ _ _ h => by omega⟩
  | n + 1, m + 1 => by
    obtain ⟨h1, h2⟩ := extJ hE n m
    refine ⟨fun depth s v r h hm => ?_, fun depth obj ns vs s v r h hm => ?_⟩
    · rw [valJ_succ] at h ⊢
      rw [List.length_append] at hm
      exact valS_app hE (fun obj v r => by rw [loopJ_nil]; intro h; cases h) (fun obj x v r hx h => h2 _ _ _ _ _ _ _ h (by rw [List.length_append]; omega)) h
    · rw [loopJ_succ] at h ⊢
      rw [List.length_append] at hm
      exact loopS_app (fun x v r hx h => ⟨(lenJ n).1 _ _ _ _ h, h1 _ _ _ _ h (by rw [List.length_append]; omega)⟩) (fun ns vs x v r hx h => h2 _ _ _ _ _ _ _ h (by rw [List.length_append]; omega)) h
/-- What is read doesn't hang on the steps that are allowed, if there are enough. -/
theorem parse_at (b : Bt) (hb : b.length ≤ 65536) (n : Nat) (hn : 2 * b.length + 1 ≤ n) : parseJ b = (match valJ n 0 b with | .error e => .error e | .ok (v, r) => if blanksL r = [] then .ok v else .error 70) := by
  unfold parseJ
  rw [if_neg (by omega), (fuelJ (2 * b.length + 2) n).1 0 b (by omega) hn]
  rfl
/-- A second value behind one is wrong. -/
theorem parse_two {b t : Bt} {v : JV} (h : parseJ b = .ok v) (hE : Ends t) (ht : blanksL t ≠ []) (hl : (b ++ t).length ≤ 65536) : parseJ (b ++ t) = .error 70 := by
  have hbl : b.length ≤ 65536 := by rw [List.length_append] at hl; omega
  rw [parse_at b hbl _ (Nat.le_refl _)] at h
  rw [parse_at (b ++ t) hl _ (Nat.le_refl _)]
  cases hv : valJ (2 * b.length + 1) 0 b with
  | error e => rw [hv] at h; cases h
  | ok y =>
    obtain ⟨w, r⟩ := y
    rw [hv] at h
    rw [(extJ hE _ _).1 0 b w r hv (Nat.le_refl _)]
    dsimp only at h ⊢
    split at h
    · rename_i hr
      rw [blanks_none t hr, if_neg ht]
    · cases h
/-! ### Blanks behind -/
def AllBl (t : Bt) : Prop := ∀ c ∈ t, isBl c = true
theorem bl_eq {c : UInt8} (h : isBl c = true) : c = 32 ∨ c = 9 ∨ c = 10 ∨ c = 13 := by
  unfold isBl at h
  simp only [Bool.or_eq_true, beq_iff_eq] at h
  rcases h with ((h | h) | h) | h
  · exact .inl h
  · exact .inr (.inl h)
  · exact .inr (.inr (.inl h))
  · exact .inr (.inr (.inr h))
theorem AllBl.ends {t : Bt} (h : AllBl t) : Ends t := fun c hc => by
  cases t with
  | nil => cases hc
  | cons d t =>
    cases hc
    rcases bl_eq (h c (by simp)) with rfl | rfl | rfl | rfl <;> decide
theorem AllBl.blanks {t : Bt} (h : AllBl t) : blanksL t = [] := by
  have := blanks_pass t h []
  rw [List.append_nil] at this
  exact this
theorem scan_bl : ∀ (t : Bt), AllBl t → scanQ t = none
  | [], _ => rfl
  | c :: t, h => by
    have hc := bl_eq (h c (by simp))
    rw [scan_one (by rcases hc with rfl | rfl | rfl | rfl <;> decide) (by rcases hc with rfl | rfl | rfl | rfl <;> decide), scan_bl t (fun x hx => h x (by simp [hx]))]
    rfl
theorem scan_none {t : Bt} (ht : AllBl t) : ∀ s : Bt, scanQ s = none → scanQ (s ++ t) = none
  | [], _ => scan_bl t ht
  | c :: r, h => by
    by_cases h34 : c = 34
    · subst h34
      rw [scan_end] at h
      cases h
    · by_cases h92 : c = 92
      · subst h92
        cases r with
        | nil =>
          cases t with
          | nil => rfl
          | cons d t =>
            show scanQ (92 :: d :: t) = none
            rw [scan_two, scan_bl t (fun x hx => ht x (by simp [hx]))]
            rfl
        | cons d r =>
          rw [scan_two] at h
          show scanQ (92 :: d :: (r ++ t)) = none
          rw [scan_two]
          cases hr : scanQ r with
          | none => rw [scan_none ht r hr]; rfl
          | some y => rw [hr] at h; cases h
      · rw [scan_one h34 h92] at h
        show scanQ (c :: (r ++ t)) = none
        rw [scan_one h34 h92]
        cases hr : scanQ r with
        | none => rw [scan_none ht r hr]; rfl
        | some y => rw [hr] at h; cases h
theorem text_none {s t : Bt} (ht : AllBl t) (h : textL s = none) : textL (s ++ t) = none := by
  unfold textL at h ⊢
  cases s with
  | nil =>
    cases t with
    | nil => rfl
    | cons d t =>
      show (if d = 34 then _ else none) = none
      rw [if_neg (by rcases bl_eq (ht d (by simp)) with rfl | rfl | rfl | rfl <;> decide)]
  | cons c s =>
    dsimp only [List.cons_append] at h ⊢
    split at h
    · rename_i hc
      rw [if_pos hc]
      cases hs : scanQ s with
      | none => rw [scan_none ht s hs]
      | some y =>
        obtain ⟨a, b⟩ := y
        rw [hs] at h
        rw [scan_app t s a b hs]
        dsimp only at h ⊢
        cases hu : unjq a with
        | none => rfl
        | some z => rw [hu] at h; cases h
    · rename_i hc
      rw [if_neg hc]
theorem member_none {s t : Bt} (ht : AllBl t) (h : memberL s = none) : memberL (s ++ t) = none := by
  unfold memberL at h ⊢
  by_cases hs : blanksL s = []
  · rw [blanks_none t hs, ht.blanks]
    rfl
  · rw [blanks_app t hs]
    cases htx : textL (blanksL s) with
    | none => rw [text_none ht htx]
    | some y =>
      obtain ⟨x', r'⟩ := y
      rw [htx] at h
      rw [text_app t htx]
      dsimp only at h ⊢
      cases hb : blanksL r' with
      | nil => rw [blanks_none t hb, ht.blanks]
      | cons c r2 =>
        rw [hb] at h
        rw [blanks_app t (by rw [hb]; simp), hb]
        dsimp only [List.cons_append] at h ⊢
        split at h
        · cases h
        · rename_i hc
          rw [if_neg hc]
theorem names_none {obj : Bool} {ns : List Bt} {s t : Bt} (ht : AllBl t) (h : namesL obj ns s = none) : namesL obj ns (s ++ t) = none := by
  unfold namesL at h ⊢
  cases obj with
  | false => cases h
  | true =>
    rw [if_pos rfl] at h ⊢
    cases hm : memberL s with
    | none => rw [member_none ht hm]; rfl
    | some y => rw [hm] at h; cases h
theorem pre_bl {t : Bt} (ht : AllBl t) : ∀ (w s : Bt), (∀ c ∈ w, isBl c = false) → w.isPrefixOf (s ++ t) = w.isPrefixOf s
  | [], s, _ => by cases s <;> cases t <;> rfl
  | a :: w, [], h => by
    cases t with
    | nil => rfl
    | cons d t =>
      have hd := ht d (by simp)
      have ha := h a (by simp)
      have : List.isPrefixOf (a :: w) (d :: t) = false := pre_ne (fun e => by subst e; rw [hd] at ha; cases ha) _ _
      exact this
  | a :: w, c :: s, h => by
    show (a == c && w.isPrefixOf (s ++ t)) = (a == c && w.isPrefixOf s)
    rw [pre_bl ht w s (fun x hx => h x (by simp [hx]))]
theorem valS_err {lp lp' : LoopF} {depth : Nat} {s t : Bt} (ht : AllBl t) (hnil : ∀ obj e, lp depth obj [] [] [] = .error e → lp' depth obj [] [] [] = .error e) (hl : ∀ obj x e, x.length < s.length → lp depth obj [] [] x = .error e → lp' depth obj [] [] (x ++ t) = .error e) {e : Int} (h : valS lp depth s = .error e) : valS lp' depth (s ++ t) = .error e := by
  have hbl := blanks_le s
  rw [← valS_blanks] at h
  by_cases hne : blanksL s = []
  · rw [hne, valS_nil] at h
    rw [← valS_blanks lp', blanks_none t hne, ht.blanks, valS_nil]
    exact h
  · rw [← valS_blanks lp', blanks_app t hne]
    cases hx : blanksL s with
    | nil => exact absurd hx hne
    | cons c x =>
      have hb := blanks_head hx
      rw [hx] at h hbl
      have p1 := pre_bl ht nullW (c :: x) (by decide)
      have p2 := pre_bl ht falseW (c :: x) (by decide)
      have p3 := pre_bl ht trueW (c :: x) (by decide)
      have hna := num_append ht.ends (show c :: x ≠ [] by simp)
      unfold valS at h ⊢
      rw [List.cons_append] at p1 p2 p3 hna ⊢
      rw [blanks_keep hb] at h ⊢
      dsimp only at h ⊢
      rw [p1, p2, p3]
      split at h
      · cases h
      · rename_i h1
        rw [if_neg h1]
        split at h
        · cases h
        · rename_i h2
          rw [if_neg h2]
          split at h
          · cases h
          · rename_i h3
            rw [if_neg h3]
            split at h
            · rename_i h34
              rw [if_pos (show (c :: (x ++ t)).head? = some 34 from h34)]
              cases htx : textL (c :: x) with
              | none =>
                have := text_none ht htx
                rw [List.cons_append] at this
                rw [htx] at h
                rw [this]
                exact h
              | some y => rw [htx] at h; cases h
            · rename_i h34
              rw [if_neg (show ¬ ((c :: (x ++ t)).head? = some 34) from h34)]
              split at h
              · rename_i hbr
                rw [if_pos (show (c :: (x ++ t)).head? ≠ some 91 ∧ (c :: (x ++ t)).head? ≠ some 123 from hbr), hna]
                split at h
                · rename_i hn
                  rw [if_pos hn]
                  exact h
                · cases h
              · rename_i hbr
                rw [if_neg (show ¬ ((c :: (x ++ t)).head? ≠ some 91 ∧ (c :: (x ++ t)).head? ≠ some 123) from hbr)]
                split at h
                · rename_i hd
                  rw [if_pos hd]
                  exact h
                · rename_i hd
                  rw [if_neg hd]
                  have hbx := blanks_le x
                  have e1 : decide ((c :: (x ++ t)).head? = some 123) = decide ((c :: x).head? = some 123) := rfl
                  have e2 : (c :: (x ++ t)).drop 1 = x ++ t := rfl
                  have e3 : (c :: x).drop 1 = x := rfl
                  rw [e1, e2]
                  rw [e3] at h
                  generalize decide ((c :: x).head? = some 123) = ob at h ⊢
                  by_cases hxn : blanksL x = []
                  · rw [hxn] at h
                    rw [blanks_none t hxn, ht.blanks]
                    split at h
                    · cases h
                    · rename_i he
                      rw [if_neg he]
                      exact hnil _ _ h
                  · rw [blanks_app t hxn]
                    cases hx2 : blanksL x with
                    | nil => exact absurd hx2 hxn
                    | cons d y =>
                      rw [hx2] at h hbx
                      split at h
                      · cases h
                      · rename_i he
                        rw [if_neg (show ¬ ((d :: y ++ t).head? = _) from he)]
                        exact hl _ _ _ (by simp at hbl hbx ⊢; omega) h
theorem loopS_err {vj vj' : ValF} {lp lp' : LoopF} {depth : Nat} {obj : Bool} {ns : List Bt} {vs : List JV} {s t : Bt} (ht : AllBl t) (hv : ∀ x v r, x.length ≤ s.length → vj (depth + 1) x = .ok (v, r) → r.length < x.length ∧ vj' (depth + 1) (x ++ t) = .ok (v, r ++ t)) (hve : ∀ x e, x.length ≤ s.length → vj (depth + 1) x = .error e → vj' (depth + 1) (x ++ t) = .error e) (hl : ∀ ns vs x e, x.length < s.length → lp depth obj ns vs x = .error e → lp' depth obj ns vs (x ++ t) = .error e) {e : Int} (h : loopS vj lp depth obj ns vs s = .error e) : loopS vj' lp' depth obj ns vs (s ++ t) = .error e := by
  unfold loopS at h ⊢
  cases hn : namesL obj ns s with
  | none =>
    rw [hn] at h
    rw [names_none ht hn]
    exact h
  | some y =>
    obtain ⟨ns', x⟩ := y
    have h1 := names_len hn
    rw [hn] at h
    rw [names_app t hn]
    dsimp only at h ⊢
    cases hj : vj (depth + 1) x with
    | error e' =>
      rw [hj] at h
      rw [hve x e' h1 hj]
      exact h
    | ok z =>
      obtain ⟨v', u⟩ := z
      obtain ⟨h2, h3⟩ := hv x v' u h1 hj
      rw [hj] at h
      rw [h3]
      dsimp only at h ⊢
      have hbu := blanks_le u
      cases hb : blanksL u with
      | nil =>
        rw [hb] at h
        rw [blanks_none t hb, ht.blanks]
        exact h
      | cons c r2 =>
        rw [hb] at h hbu
        rw [blanks_app t (by rw [hb]; simp), hb]
        simp only [List.length_cons] at hbu
        dsimp only [List.cons_append] at h ⊢
        split at h
        · cases h
        · rename_i hc
          rw [if_neg hc]
          split at h
          · rename_i hc2
            rw [if_pos hc2]
            exact h
          · rename_i hc2
            rw [if_neg hc2]
            exact hl _ _ _ _ (by omega) h
theorem errJ {t : Bt} (ht : AllBl t) : ∀ n m, (∀ depth s e, valJ n depth s = .error e → 2 * s.length + 1 ≤ n → 2 * (s ++ t).length + 1 ≤ m → valJ m depth (s ++ t) = .error e) ∧ (∀ depth obj ns vs s e, loopJ n depth obj ns vs s = .error e → 2 * s.length + 2 ≤ n → 2 * (s ++ t).length + 2 ≤ m → loopJ m depth obj ns vs (s ++ t) = .error e)
  | 0, m => ⟨fun _ _ _ _ h => by omega, fun _ _ _ _ _ _ _ h => by omega⟩
  | n + 1, 0 => ⟨fun _ _ _ _ _ h => by omega, fun _ _ _ _ _ _ _ _ h => by omega⟩
  | n + 1, m + 1 => by
    obtain ⟨h1, h2⟩ := errJ ht n m
    refine ⟨fun depth s e h hn hm => ?_, fun depth obj ns vs s e h hn hm => ?_⟩
    · rw [valJ_succ] at h ⊢
      rw [List.length_append] at hm
      exact valS_err ht (fun obj e h => by rw [loopJ_nil] at h ⊢; exact h) (fun obj x e hx h => h2 _ _ _ _ _ _ h (by omega) (by rw [List.length_append]; omega)) h
    · rw [loopJ_succ] at h ⊢
      rw [List.length_append] at hm
      exact loopS_err ht (fun x v r hx h => ⟨(lenJ n).1 _ _ _ _ h, (extJ ht.ends n m).1 _ _ _ _ h (by rw [List.length_append]; omega)⟩) (fun x e hx h => h1 _ _ _ h (by omega) (by rw [List.length_append]; omega)) (fun ns vs x e hx h => h2 _ _ _ _ _ _ h (by omega) (by rw [List.length_append]; omega)) h
/-- Blanks around change nothing. -/
theorem parse_blanks {a b t : Bt} (ha : AllBl a) (ht : AllBl t) (hl : (a ++ b ++ t).length ≤ 65536) : parseJ (a ++ b ++ t) = parseJ b := by
  have hl2 : a.length + b.length + t.length ≤ 65536 := by rw [List.length_append, List.length_append] at hl; exact hl
  rw [parse_at _ hl _ (Nat.le_refl _), parse_at b (by omega) _ (Nat.le_refl _)]
  have e1 : valJ (2 * (a ++ b ++ t).length + 1) 0 (a ++ b ++ t) = valJ (2 * (a ++ b ++ t).length + 1) 0 (b ++ t) := by
    rw [← valJ_blanks _ _ (a ++ b ++ t), List.append_assoc, blanks_pass a ha, valJ_blanks]
  rw [e1]
  have hm : 2 * (b ++ t).length + 1 ≤ 2 * (a ++ b ++ t).length + 1 := by
    rw [List.length_append, List.length_append, List.length_append]
    omega
  cases hv : valJ (2 * b.length + 1) 0 b with
  | error e => rw [(errJ ht _ _).1 0 b e hv (Nat.le_refl _) hm]
  | ok y =>
    obtain ⟨w, r⟩ := y
    rw [(extJ ht.ends _ _).1 0 b w r hv hm]
    dsimp only
    by_cases hr : blanksL r = []
    · rw [if_pos hr, blanks_none t hr, ht.blanks, if_pos rfl]
    · rw [if_neg hr, blanks_app t hr, if_neg (by cases hx : blanksL r with | nil => exact absurd hx hr | cons c x => simp)]
end Go.Proofs.YtchgelfomnbpaaaDoor
namespace Go.Proofs.YtchgelfomnbpaaaDoor
open Go.Lib

/-- What opens a list, or an object's member of the name k. -/
def opnL (obj : Bool) : Bt := if obj then [123, 34, 107, 34, 58] else [91]
theorem unjq_k : unjq [107] = some [107] := by decide +kernel
theorem member_k (r : Bt) : memberL (34 :: 107 :: 34 :: 58 :: r) = some ([107], r) := by
  unfold memberL
  rw [blanks_keep (by decide)]
  have e : textL (34 :: 107 :: 34 :: 58 :: r) = some ([107], 58 :: r) := by
    unfold textL
    dsimp only
    rw [if_pos rfl, scan_one (by decide) (by decide), scan_end]
    dsimp only [Option.map]
    rw [unjq_k]
  rw [e]
  dsimp only
  rw [blanks_keep (by decide)]
  rfl
theorem opn_head (o : Bool) (r : Bt) : ∃ c t, opnL o ++ r = c :: t ∧ isBl c = false ∧ (c = 91 ∨ c = 123) := by
  cases o
  · exact ⟨91, r, rfl, by decide, .inl rfl⟩
  · exact ⟨123, 34 :: 107 :: 34 :: 58 :: r, rfl, by decide, .inr rfl⟩
theorem deepJ : ∀ (os : List Bool) (n depth : Nat) (r : Bt), depth ≤ 24 → 25 ≤ depth + os.length → 2 * (os.flatMap opnL ++ r).length + 1 ≤ n → valJ n depth (os.flatMap opnL ++ r) = .error 71
  | [], n, depth, r, h1, h2, _ => by simp at h2; omega
  | o :: os, 0, depth, r, _, _, h => by omega
  | o :: os, n + 1, depth, r, h1, h2, hn => by
    obtain ⟨X, hX⟩ : ∃ X, os.flatMap opnL ++ r = X := ⟨_, rfl⟩
    have e : (o :: os).flatMap opnL ++ r = opnL o ++ X := by rw [← hX]; simp
    rw [e] at hn ⊢
    rw [valJ_succ]
    obtain ⟨c, t, ec, hb, hc⟩ := opn_head o X
    have hne : c ≠ 110 ∧ c ≠ 102 ∧ c ≠ 116 ∧ c ≠ 34 ∧ ¬ (c ≠ 91 ∧ c ≠ 123) := by
      rcases hc with rfl | rfl <;> exact ⟨by decide, by decide, by decide, by decide, by decide⟩
    rw [ec, valS_other _ _ hb hne.1 hne.2.1 hne.2.2.1, if_neg hne.2.2.2.1, if_neg hne.2.2.2.2]
    by_cases hd : depth = 24
    · rw [if_pos hd]
    · rw [if_neg hd]
      have hlen : 1 ≤ os.length := by simp at h2; omega
      obtain ⟨o', os', rfl⟩ : ∃ o' os', os = o' :: os' := by
        cases os with
        | nil => simp at hlen
        | cons a b => exact ⟨a, b, rfl⟩
      obtain ⟨c', t', ec', hb', hc'⟩ := opn_head o' (os'.flatMap opnL ++ r)
      have eX : X = c' :: t' := by rw [← hX, ← ec']; simp
      cases o with
      | false =>
        have ht : c = 91 ∧ t = X := by
          have : opnL false ++ X = 91 :: X := rfl
          rw [this] at ec
          cases ec
          exact ⟨rfl, rfl⟩
        obtain ⟨rfl, rfl⟩ := ht
        have hbl : blanksL t = t := by rw [eX]; exact blanks_keep hb' _
        rw [hbl, if_neg (by rw [eX]; intro h; have := Option.some.inj h; rcases hc' with rfl | rfl <;> cases this)]
        have hn' : 2 * t.length + 2 ≤ n := by
          have : (opnL false ++ t).length = t.length + 1 := by rw [show opnL false ++ t = 91 :: t from rfl]; rfl
          omega
        cases n with
        | zero => omega
        | succ n =>
          rw [loopJ_succ]
          unfold loopS
          have e1 : namesL (decide ((91 : UInt8) = 123)) [] t = some ([], t) := rfl
          rw [e1]
          dsimp only
          have := deepJ (o' :: os') n (depth + 1) r (by omega) (by simp at h2 ⊢; omega) (by rw [hX]; omega)
          rw [hX] at this
          rw [this]
      | true =>
        have ht : c = 123 ∧ t = 34 :: 107 :: 34 :: 58 :: X := by
          have : opnL true ++ X = 123 :: 34 :: 107 :: 34 :: 58 :: X := rfl
          rw [this] at ec
          cases ec
          exact ⟨rfl, rfl⟩
        obtain ⟨rfl, rfl⟩ := ht
        rw [blanks_keep (by decide), if_neg (by intro h; have := Option.some.inj h; cases this)]
        have hn' : 2 * X.length + 4 ≤ n := by
          have : (opnL true ++ X).length = X.length + 5 := by rw [show opnL true ++ X = 123 :: 34 :: 107 :: 34 :: 58 :: X from rfl]; rfl
          omega
        cases n with
        | zero => omega
        | succ n =>
          rw [loopJ_succ]
          unfold loopS
          have e1 : namesL (decide ((123 : UInt8) = 123)) [] (34 :: 107 :: 34 :: 58 :: X) = some ([[107]], X) := by
            unfold namesL
            rw [if_pos (by decide), member_k]
            rfl
          rw [e1]
          dsimp only
          have := deepJ (o' :: os') n (depth + 1) r (by omega) (by simp at h2 ⊢; omega) (by rw [hX]; omega)
          rw [hX] at this
          rw [this]
theorem parse_deep (os : List Bool) (r : Bt) (h : 25 ≤ os.length) (hl : (os.flatMap opnL ++ r).length ≤ 65536) : parseJ (os.flatMap opnL ++ r) = .error 71 := by
  rw [parse_at _ hl _ (Nat.le_refl _), deepJ os _ 0 r (by omega) (by omega) (Nat.le_refl _)]
end Go.Proofs.YtchgelfomnbpaaaDoor
namespace Go.Proofs.YtchgelfomnbpaaaDoor
open Go.Lib

mutual
def depthJ : JV → Nat
  | .mk k _ _ l => if k = 5 ∨ k = 6 then depthsJ l + 1 else 0
def depthsJ : List JV → Nat
  | [] => 0
  | v :: l => max (depthJ v) (depthsJ l)
end
mutual
theorem right_depth : ∀ (v : JV) (d : Nat), d ≤ 24 → rightJ d v = true → d + depthJ v ≤ 24
  | .mk k t ns l, d, hd, h => by
    rw [depthJ]
    split
    · rename_i hk
      rcases right_cases h with ⟨h0, _⟩ | ⟨h0, _⟩ | ⟨h0, _⟩ | ⟨_, _, _, h24, hr⟩ | ⟨_, _, _, _, h24, hr⟩
      · omega
      · omega
      · omega
      · have := rights_depth l (d + 1) (by omega) hr
        omega
      · have := rights_depth l (d + 1) (by omega) hr
        omega
    · omega
theorem rights_depth : ∀ (l : List JV) (d : Nat), d ≤ 24 → rightsJ d l = true → d + depthsJ l ≤ 24
  | [], d, hd, _ => by rw [depthsJ]; omega
  | v :: l, d, hd, h => by
    rw [rightsJ] at h
    have h1 := right_depth v d hd (Bool.and_eq_true _ _ ▸ h).1
    have h2 := rights_depth l d hd (Bool.and_eq_true _ _ ▸ h).2
    rw [depthsJ]
    omega
end
mutual
theorem right_at : ∀ (v : JV) (d e : Nat), rightJ d v = true → e + depthJ v ≤ 24 → rightJ e v = true
  | .mk k t ns l, d, e, h, he => by
    have hcs : (k = 5 ∨ k = 6) → e ≠ 24 ∧ (rightsJ (d + 1) l = true → rightsJ (e + 1) l = true) := fun hk => by
      rw [depthJ, if_pos hk] at he
      exact ⟨by omega, fun hr => rights_at l (d + 1) (e + 1) hr (by omega)⟩
    rw [rightJ] at h ⊢
    split at h
    · cases h
    · rename_i h1
      rw [if_neg h1]
      split at h
      · cases h
      · rename_i h2
        rw [if_neg h2]
        split at h
        · rename_i h3
          rw [if_pos h3]
          exact h
        · rename_i h3
          rw [if_neg h3]
          split at h
          · rename_i h4
            rw [if_pos h4]
            exact h
          · rename_i h4
            rw [if_neg h4]
            split at h
            · cases h
            · rename_i h5
              rw [Bool.and_eq_true] at h
              have h6 : ¬ (t ≠ [] ∨ 5 ≤ k ∧ e = 24) := fun hx => by
                rcases hx with hx | ⟨hx, hy⟩
                · exact h5 (.inl hx)
                · exact (hcs (by omega)).1 hy
              rw [if_neg h6, Bool.and_eq_true]
              refine ⟨h.1, ?_⟩
              by_cases hk : k = 5 ∨ k = 6
              · exact (hcs hk).2 h.2
              · have : l = [] := List.eq_nil_of_length_eq_zero (Nat.eq_zero_of_not_pos fun h0 => h2 (.inl ⟨by omega, h0⟩))
                subst this
                rw [rightsJ]
theorem rights_at : ∀ (l : List JV) (d e : Nat), rightsJ d l = true → e + depthsJ l ≤ 24 → rightsJ e l = true
  | [], d, e, _, _ => by rw [rightsJ]
  | v :: l, d, e, h, he => by
    rw [rightsJ] at h
    rw [depthsJ] at he
    rw [rightsJ, right_at v d e (Bool.and_eq_true _ _ ▸ h).1 (by omega), rights_at l d e (Bool.and_eq_true _ _ ▸ h).2 (by omega)]
    rfl
end
/-- What is written is read again. -/
theorem parse_print {v : JV} (h : rightJ 0 v = true) (hl : (printJ v).length ≤ 65536) : parseJ (printJ v) = .ok v := by
  rw [parse_at _ hl _ (Nat.le_refl _)]
  have := (rtJ (2 * (printJ v).length + 1)).1 v 0 [] h ends_nil (by rw [List.append_nil]; exact Nat.le_refl _)
  rw [List.append_nil] at this
  rw [this]
  rfl
/-- A list of right values is right. -/
theorem right_list {l : List JV} (h : ∀ v ∈ l, rightJ 0 v = true ∧ depthJ v < 24) : rightJ 0 (.mk 5 [] [] l) = true := by
  have hr : rightsJ 1 l = true := by
    induction l with
    | nil => rw [rightsJ]
    | cons v l ih =>
      have hv := h v (by simp)
      rw [rightsJ, right_at v 0 1 hv.1 (by omega), ih fun x hx => h x (by simp [hx])]
      rfl
  rw [rightJ]
  simp [hr]
/-- Texts with commas between, put together from the left. -/
def commaL (s : Bt) (first : Bool) (v : JV) : Bt := (if first then s else s ++ [44]) ++ printJ v
theorem join_snoc : ∀ (l : List JV) (v : JV), l ≠ [] → joinJ false [] (l ++ [v]) = joinJ false [] l ++ 44 :: printJ v
  | [], v, h => absurd rfl h
  | [a], v, _ => by
    show joinJ false [] [a, v] = _
    rw [joinJ, joinJ, restJ, restJ, restJ]
    simp
  | a :: b :: l, v, _ => by
    have ih := join_snoc (b :: l) v (by simp)
    show joinJ false [] (a :: (b :: (l ++ [v]))) = _
    have e1 : ∀ (x : JV) (y : List JV), joinJ false [] (a :: x :: y) = printJ a ++ 44 :: joinJ false [] (x :: y) := fun x y => by
      rw [joinJ, show List.drop 1 ([] : List Bt) = [] from rfl, rest_cons]
      rfl
    rw [e1, e1]
    rw [show b :: (l ++ [v]) = b :: l ++ [v] from rfl, ih]
    simp
theorem join_one (v : JV) : joinJ false [] [v] = printJ v := by
  rw [joinJ, restJ]
  simp
end Go.Proofs.YtchgelfomnbpaaaDoor
namespace Go.Proofs.YtchgelfomnbpaaaDoor
open Go.RowKit
open Go.Lib

abbrev TT : TypeId := 57
/-- The tape at block X holds s and has been read up to a place. -/
def TS (X : Nat) (s : Bt) (k : Nat) (w : World) : Prop := Blk X (.cells #[.string (bs s), .int .i64 k] TT (0, 0)) w
theorem TS.c0 {X : Nat} {s : Bt} {k : Nat} {w : World} (h : TS X s k w) : w.cell? ⟨X, 0, none⟩ = some (.string (bs s)) := Blk.cell h 0
theorem TS.c1 {X : Nat} {s : Bt} {k : Nat} {w : World} (h : TS X s k w) : w.cell? ⟨X, 1, none⟩ = some (.int .i64 k) := Blk.cell h 1
theorem TS.free {X : Nat} {s : Bt} {k : Nat} {w : World} (h : TS X s k w) (j : Nat) : w.frozen? ⟨X, j, none⟩ = false := Blk.free h j
theorem TS.below {X : Nat} {s : Bt} {k : Nat} {w w' : World} (h : TS X s k w) (hb : Below w.heap.size w w') : TS X s k w' := (Off.of_below hb).blk h (fun h => h)
theorem TS.set {X : Nat} {s : Bt} {k : Nat} {w : World} (h : TS X s k w) (k' : Nat) : TS X s k' (w.setCell ⟨X, 1, none⟩ (.int .i64 k')) := Blk.set h 1 (.int .i64 k')
theorem off_set7 (w : World) (X j : Nat) (v : Value) : Off (fun k => k = X) w (w.setCell ⟨X, j, none⟩ v) := (Off.of_grown (grown_set w X j v)).mono (fun _ h => (Option.some.inj h).symm)
theorem Off.drewN {F : Nat → Prop} {w w' : World} (h : Off F w w') (n : Nat) : Off F w (w'.drewN n) := h.trans (Off.of_below (below_drewN (Below.refl _ _) n)) (fun _ h => h.elim)
theorem TS.drewN {X : Nat} {s : Bt} {k : Nat} {w : World} (h : TS X s k w) (n : Nat) : TS X s k (w.drewN n) := h.below (below_drewN (Below.refl _ _) n)
/-- The byte at a place of a text. -/
theorem byte_run (s : Bt) (k : Nat) (z : Int) (h : k < s.length) (hz : (s[k].toNat : Int) = z) (W : World) : (Instr.index 9 (.string (bs s)) (.int .i64 k)).run Tryd.prog W = .ok (.int .u8 z) W := by
  subst hz
  have hk : k < (bs s).size := by rw [bs_size]; exact h
  have h2 := run_index_string (P := Tryd.prog) W 9 (bs s) .i64 (k : Int) Tryd.underlying9
  rw [dif_pos ⟨by omega, by omega⟩] at h2
  have e : (bs s)[((k : Int)).toNat]'(by omega) = s[k] := by
    show (bs s).data[((k : Int)).toNat]'_ = s[k]
    simp only [bs]
    rfl
  rw [e] at h2
  exact h2
theorem drop_a7 (s : Bt) (k : Nat) (h : k < s.length) : s.drop k = s[k] :: s.drop (k + 1) := List.drop_eq_getElem_cons h
end Go.Proofs.YtchgelfomnbpaaaDoor
namespace Go.Proofs.YtchgelfomnbpaaaDoor
open Go.RowKit
open Go.Lib

def atOf (X : Nat) (w : World) : Nat := match w.cell? ⟨X, 1, none⟩ with | some (.int _ z) => z.toNat | _ => 0
theorem TS.at {X : Nat} {s : Bt} {k : Nat} {w : World} (h : TS X s k w) : atOf X w = k := by
  unfold atOf
  rw [h.c1]
  rfl
theorem bl_num {c : UInt8} (h : isBl c = false) : ((c.toNat : Int) == 32) = false ∧ ((c.toNat : Int) == 9) = false ∧ ((c.toNat : Int) == 10) = false ∧ ((c.toNat : Int) == 13) = false := by
  unfold isBl at h
  simp only [Bool.or_eq_false_iff, beq_eq_false_iff_ne] at h
  obtain ⟨⟨⟨h1, h2⟩, h3⟩, h4⟩ := h
  have ne : ∀ d : UInt8, c ≠ d → ((c.toNat : Int) == (d.toNat : Int)) = false := fun d hd => by
    rw [beq_eq_false_iff_ne]
    intro e
    have e2 : c.toNat = d.toNat := by omega
    exact hd (UInt8.toNat_inj.1 e2)
  exact ⟨ne 32 h1, ne 9 h2, ne 10 h3, ne 13 h4⟩
set_option maxRecDepth 100000 in
set_option maxHeartbeats 2000000 in
theorem tblanks_any {X : Nat} {s : Bt} {k : Nat} {w : World} (h : TS X s k w) (hk : k ≤ s.length) (hs : s.length ≤ 1000000000) :
    Calls Tryd.prog 24 #[.pointer (some ⟨X, 0, none⟩)] w fun e w' => e = .returned (.tuple #[]) ∧ ∃ k', k ≤ k' ∧ k' ≤ s.length ∧ s.drop k' = blanksL (s.drop k) ∧ TS X s k' w' ∧ Off (fun b => b = X) w w' := by
  obtain ⟨n, hn⟩ : ∃ n, s.length = n := ⟨_, rfl⟩
  have hsz : (bs s).size = n := by rw [bs_size, hn]
  have HN := Lib.hid hn
  rw [hn] at hk hs
  have H0 := Lib.hid h
  clear hn h
  go_enter Tryd.func24, Tryd.ntmps24
  go_wp2
  go_loopw [] (fun wr => ∃ j, k ≤ j ∧ j ≤ n ∧ Hid (TS X s j wr) ∧ Hid (blanksL (s.drop j) = blanksL (s.drop k)) ∧ Hid (Off (fun b => b = X) w wr)) (fun wr => n - atOf X wr)
  case atStart => exact ⟨k, Nat.le_refl _, hk, H0, Lib.hid rfl, Lib.hid (Off.refl _ _)⟩
  case round =>
    clear H0
    obtain ⟨j, hkj, hjn, HT, HB, HO⟩ := hrel
    have hat := HT.out.at
    have HAT := Lib.hid hat
    clear hat
    have c0 := HT.out.c0
    have c1 := HT.out.c1
    by_cases hjl : j < n
    · have hjs : j < s.length := by rw [HN.out]; exact hjl
      have hdr := drop_a7 s j hjs
      obtain ⟨c, hc⟩ : ∃ c, s[j] = c := ⟨_, rfl⟩
      have hdk : decide ((j : Int) < (n : Int)) = true := decide_eq_true (by omega)
      have i0' : (0 : Int) ≤ (j : Int) := by omega
      have i1' : (j : Int) < (n : Int) := by omega
      have HDR := Lib.hid hdr
      have HC := Lib.hid hc
      clear hdr
      by_cases hb : isBl c = true
      · have HB2 : Hid (blanksL (s.drop (j + 1)) = blanksL (s.drop k)) := Lib.hid (by
          rw [← HB.out, HDR.out, HC.out]
          unfold blanksL
          rw [List.dropWhile_cons_of_pos hb])
        rcases bl_eq hb with rfl | rfl | rfl | rfl
        · have hix := byte_run s j 32 hjs (by rw [hc]; rfl)
          clear hc hb
          go_wp2
          go_quiet (fail)
          obtain ⟨Z, hZ⟩ : ∃ Z, Z = wr.drewN nq := ⟨_, rfl⟩
          rw [← hZ]
          have hTZ : TS X s j Z := by rw [hZ]; exact HT.out.drewN nq
          have HOZ : Hid (Off (fun b => b = X) w Z) := Lib.hid (by rw [hZ]; exact HO.out.drewN nq)
          have z1 := hTZ.c1
          have zf := hTZ.free 1
          have HTZ := Lib.hid hTZ
          have HNW : Hid (TS X s (j + 1) (Z.setCell ⟨X, 1, none⟩ (.int .i64 ((j : Int) + 1)))) := Lib.hid (hTZ.set (j + 1))
          clear hTZ hZ
          go_wp2
          exact ⟨⟨j + 1, by omega, by omega, HNW, HB2, Lib.hid (HOZ.out.trans (off_set7 _ _ _ _) (fun _ h => .inl h))⟩, by rw [HNW.out.at, HAT.out]; omega⟩
        · have hix := byte_run s j 9 hjs (by rw [hc]; rfl)
          clear hc hb
          go_wp2
          go_quiet (fail)
          obtain ⟨Z, hZ⟩ : ∃ Z, Z = wr.drewN nq := ⟨_, rfl⟩
          rw [← hZ]
          have hTZ : TS X s j Z := by rw [hZ]; exact HT.out.drewN nq
          have HOZ : Hid (Off (fun b => b = X) w Z) := Lib.hid (by rw [hZ]; exact HO.out.drewN nq)
          have z1 := hTZ.c1
          have zf := hTZ.free 1
          have HTZ := Lib.hid hTZ
          have HNW : Hid (TS X s (j + 1) (Z.setCell ⟨X, 1, none⟩ (.int .i64 ((j : Int) + 1)))) := Lib.hid (hTZ.set (j + 1))
          clear hTZ hZ
          go_wp2
          exact ⟨⟨j + 1, by omega, by omega, HNW, HB2, Lib.hid (HOZ.out.trans (off_set7 _ _ _ _) (fun _ h => .inl h))⟩, by rw [HNW.out.at, HAT.out]; omega⟩
        · have hix := byte_run s j 10 hjs (by rw [hc]; rfl)
          clear hc hb
          go_wp2
          go_quiet (fail)
          obtain ⟨Z, hZ⟩ : ∃ Z, Z = wr.drewN nq := ⟨_, rfl⟩
          rw [← hZ]
          have hTZ : TS X s j Z := by rw [hZ]; exact HT.out.drewN nq
          have HOZ : Hid (Off (fun b => b = X) w Z) := Lib.hid (by rw [hZ]; exact HO.out.drewN nq)
          have z1 := hTZ.c1
          have zf := hTZ.free 1
          have HTZ := Lib.hid hTZ
          have HNW : Hid (TS X s (j + 1) (Z.setCell ⟨X, 1, none⟩ (.int .i64 ((j : Int) + 1)))) := Lib.hid (hTZ.set (j + 1))
          clear hTZ hZ
          go_wp2
          exact ⟨⟨j + 1, by omega, by omega, HNW, HB2, Lib.hid (HOZ.out.trans (off_set7 _ _ _ _) (fun _ h => .inl h))⟩, by rw [HNW.out.at, HAT.out]; omega⟩
        · have hix := byte_run s j 13 hjs (by rw [hc]; rfl)
          clear hc hb
          go_wp2
          go_quiet (fail)
          obtain ⟨Z, hZ⟩ : ∃ Z, Z = wr.drewN nq := ⟨_, rfl⟩
          rw [← hZ]
          have hTZ : TS X s j Z := by rw [hZ]; exact HT.out.drewN nq
          have HOZ : Hid (Off (fun b => b = X) w Z) := Lib.hid (by rw [hZ]; exact HO.out.drewN nq)
          have z1 := hTZ.c1
          have zf := hTZ.free 1
          have HTZ := Lib.hid hTZ
          have HNW : Hid (TS X s (j + 1) (Z.setCell ⟨X, 1, none⟩ (.int .i64 ((j : Int) + 1)))) := Lib.hid (hTZ.set (j + 1))
          clear hTZ hZ
          go_wp2
          exact ⟨⟨j + 1, by omega, by omega, HNW, HB2, Lib.hid (HOZ.out.trans (off_set7 _ _ _ _) (fun _ h => .inl h))⟩, by rw [HNW.out.at, HAT.out]; omega⟩
      · have hbf : isBl c = false := by simpa using hb
        obtain ⟨e1, e2, e3, e4⟩ := bl_num hbf
        obtain ⟨z, hz⟩ : ∃ z, (c.toNat : Int) = z := ⟨_, rfl⟩
        have hix := byte_run s j z hjs (by rw [hc]; exact hz)
        have HE : Hid (s.drop j = blanksL (s.drop k)) := Lib.hid (by rw [← HB.out, HDR.out, HC.out, blanks_keep hbf])
        rw [hz] at e1 e2 e3 e4
        clear hz hc hb hbf
        go_wp2
        go_quiet (fail)
        have HTZ := Lib.hid (HT.out.drewN nq)
        have HOZ := Lib.hid (HO.out.drewN nq)
        go_wp2
        go_end0
        exact ⟨rfl, j, hkj, by omega, HE.out, HTZ.out, HOZ.out⟩
    · obtain rfl : j = n := by omega
      have hdk : decide ((j : Int) < (j : Int)) = false := decide_eq_false (by omega)
      have HE : Hid (s.drop j = blanksL (s.drop k)) := Lib.hid (by rw [← HB.out, List.drop_of_length_le (by rw [HN.out]; exact Nat.le_refl _)]; rfl)
      go_wp2
      go_quiet (fail)
      have HTZ := Lib.hid (HT.out.drewN nq)
      have HOZ := Lib.hid (HO.out.drewN nq)
      go_wp2
      go_end0
      exact ⟨rfl, j, hkj, by rw [HN.out]; exact Nat.le_refl _, HE.out, HTZ.out, HOZ.out⟩
/-- The byte that stands next; 0: none. -/
def nextZ (s : Bt) (k : Nat) : Int := match s.drop k with | [] => 0 | c :: _ => (c.toNat : Int)
set_option maxRecDepth 100000 in
theorem tnext_any {X : Nat} {s : Bt} {k : Nat} {w : World} (h : TS X s k w) (hk : k ≤ s.length)  :
    Calls Tryd.prog 36 #[.pointer (some ⟨X, 0, none⟩)] w fun e w' => e = .returned (.int .u8 (nextZ s k)) ∧ Below w.heap.size w w' := by
  obtain ⟨n, hn⟩ : ∃ n, s.length = n := ⟨_, rfl⟩
  have hsz : (bs s).size = n := by rw [bs_size, hn]
  have HN := Lib.hid hn
  rw [hn] at hk
  have c0 := h.c0
  have c1 := h.c1
  have H0 := Lib.hid h
  clear hn h
  by_cases hl : k < n
  · have hks : k < s.length := by rw [HN.out]; exact hl
    obtain ⟨z, hz⟩ : ∃ z, (s[k].toNat : Int) = z := ⟨_, rfl⟩
    have hix := byte_run s k z hks hz
    have hq : nextZ s k = z := by unfold nextZ; rw [drop_a7 s k hks]; exact hz
    have hdk : decide ((k : Int) < (n : Int)) = true := decide_eq_true (by omega)
    have i0' : (0 : Int) ≤ (k : Int) := by omega
    have i1' : (k : Int) < (n : Int) := by omega
    rw [hq]
    clear hz hq
    go_enter Tryd.func36, Tryd.ntmps36
    go_wp2
    go_quiet (fail)
    have hT1 := H0.out.drewN nq
    have c0 := hT1.c0
    have c1 := hT1.c1
    have hb1 : Below w.heap.size w (w.drewN nq) := below_drewN (Below.refl _ _) nq
    obtain ⟨Z, hZ⟩ : ∃ Z, w.drewN nq = Z := ⟨_, rfl⟩
    rw [hZ] at c0 c1 hb1 ⊢
    have HB := Lib.hid hb1
    clear hT1 hZ hb1
    go_wp2
    go_quiet (fail)
    go_wp2
    go_ret
    exact ⟨rfl, below_drewN HB.out _⟩
  · have hq : nextZ s k = 0 := by unfold nextZ; rw [List.drop_of_length_le (by rw [HN.out]; omega)]
    have hdk : decide ((k : Int) < (n : Int)) = false := decide_eq_false (by omega)
    rw [hq]
    go_enter Tryd.func36, Tryd.ntmps36
    go_wp2
    go_quiet (fail)
    go_wp2
    go_ret
    exact ⟨rfl, below_drewN (Below.refl _ _) _⟩
end Go.Proofs.YtchgelfomnbpaaaDoor
namespace Go.Proofs.YtchgelfomnbpaaaDoor
open Go.RowKit
open Go.Lib

theorem slice_mid (s : Bt) (k m : Nat) (z : Int) (hz : z = (k : Int) + (m : Int)) (h : k + m ≤ s.length) (r : Bt) (hr : (s.drop k).take m = r) (W : World) : (Instr.slice 9 (.string (bs s)) (some (.int .i64 k)) (some (.int .i64 z)) none).run Tryd.prog W = .ok (.string (bs r)) W := by
  subst hz hr
  have hsz := bs_size s
  refine (run_slice_string (P := Tryd.prog) W 9 (bs s) .i64 .i64 (k : Int) ((k : Int) + (m : Int)) Tryd.underlying9 (by omega) (by omega) (by omega)).trans ?_
  congr 2
  apply ByteArray.ext
  apply Array.ext'
  rw [show ((k : Int)).toNat = k from by omega, show ((k : Int) + (m : Int)).toNat = k + m from by omega]
  unfold bs
  simp [ByteArray.data_extract, List.take_drop]
theorem pre_take7 (w t : Bt) : w.isPrefixOf t = (decide (w.length ≤ t.length) && (t.take w.length == w)) := by
  by_cases h : w.isPrefixOf t = true
  · rw [h]
    obtain ⟨r, rfl⟩ := List.isPrefixOf_iff_prefix.1 h
    simp
  · have hf : w.isPrefixOf t = false := Bool.eq_false_iff.2 h
    rw [hf]
    symm
    rw [Bool.and_eq_false_iff]
    refine .inr (beq_eq_false_iff_ne.2 fun e => h ?_)
    rw [List.isPrefixOf_iff_prefix, ← e]
    exact List.take_prefix _ _
theorem eqT_bool (a b : Bt) : ((bs a).toList == (bs b).toList) = (a == b) := by
  rw [Lib.toList_data, Lib.toList_data, bs_list, bs_list]
set_option maxRecDepth 100000 in
set_option maxHeartbeats 2000000 in
theorem tword_any {X : Nat} {s : Bt} {k : Nat} {w : World} (h : TS X s k w) (hk : k ≤ s.length) (hs : s.length ≤ 1000000000) (wd : Bt) (hw : wd.length ≤ 1000) (ob : Bool) (hob : wd.isPrefixOf (s.drop k) = ob) :
    Calls Tryd.prog 37 #[.pointer (some ⟨X, 0, none⟩), .string (bs wd)] w fun e w' => e = .returned (.bool ob) ∧ TS X s (if ob then k + wd.length else k) w' ∧ Off (fun b => b = X) w w' := by
  obtain ⟨n, hn⟩ : ∃ n, s.length = n := ⟨_, rfl⟩
  obtain ⟨m, hm⟩ : ∃ n, wd.length = n := ⟨_, rfl⟩
  have hsz : (bs s).size = n := by rw [bs_size, hn]
  have hwz : (bs wd).size = m := by rw [bs_size, hm]
  rw [pre_take7, List.length_drop, hn, hm] at hob
  rw [hn] at hk hs
  rw [hm] at hw ⊢
  have c0 := h.c0
  have c1 := h.c1
  have H0 := Lib.hid h
  have hwr : IntKind.i64.wrap ((n : Int) - (k : Int)) = (n : Int) - (k : Int) := IntWalk.i64_in _ (by omega)
  by_cases hlt : m ≤ n - k
  · obtain ⟨x, hx⟩ : ∃ x, (s.drop k).take m = x := ⟨_, rfl⟩
    have hsl : ∀ W, (Instr.slice 9 (.string (bs s)) (some (.int .i64 k)) (some (.int .i64 ((k : Int) + (m : Int)))) none).run Tryd.prog W = .ok (.string (bs x)) W := fun W => slice_mid s k m _ rfl (by omega) x hx W
    have heq : ((bs x).toList == (bs wd).toList) = ob := by rw [eqT_bool, ← hob, hx, decide_eq_true hlt, Bool.true_and]
    have hwr2 : IntKind.i64.wrap ((k : Int) + (m : Int)) = (k : Int) + (m : Int) := IntWalk.i64_in _ (by omega)
    have hdk : decide ((n : Int) - (k : Int) < (m : Int)) = false := decide_eq_false (by omega)
    have i0' : (0 : Int) ≤ (k : Int) := by omega
    have i1' : (k : Int) ≤ (k : Int) + (m : Int) := by omega
    have i2' : (k : Int) + (m : Int) ≤ (n : Int) := by omega
    clear hob hx hn hm h
    go_enter Tryd.func37, Tryd.ntmps37
    go_wp2
    go_quiet (fail)
    have hTZ := H0.out.drewN nq
    have HOZ : Hid (Off (fun b => b = X) w (w.drewN nq)) := Lib.hid ((Off.refl _ w).drewN nq)
    obtain ⟨Z, hZ⟩ : ∃ Z, w.drewN nq = Z := ⟨_, rfl⟩
    rw [hZ] at hTZ HOZ ⊢
    have z1 := hTZ.c1
    have zf := hTZ.free 1
    have HTZ := Lib.hid hTZ
    have HNW : Hid (TS X s (k + m) (Z.setCell ⟨X, 1, none⟩ (.int .i64 ((k : Int) + (m : Int))))) := Lib.hid (hTZ.set (k + m))
    clear hTZ hZ
    cases ob
    · go_wp2
      go_ret
      exact ⟨rfl, HTZ.out, HOZ.out⟩
    · go_wp2
      go_ret
      exact ⟨rfl, HNW.out, HOZ.out.trans (off_set7 _ _ _ _) (fun _ h => .inl h)⟩
  · have hof : false = ob := by rw [← hob, decide_eq_false hlt]; rfl
    subst hof
    have hdk : decide ((n : Int) - (k : Int) < (m : Int)) = true := decide_eq_true (by omega)
    clear hob hn hm h
    go_enter Tryd.func37, Tryd.ntmps37
    go_wp2
    go_quiet (fail)
    go_wp2
    go_ret
    exact ⟨rfl, H0.out.drewN nq, (Off.refl _ w).drewN nq⟩
end Go.Proofs.YtchgelfomnbpaaaDoor
