/-
  Of the proofs of layer 7 (values of JSON): the parts JsU JsV JsW. No conditions.
-/
import Derived.Test.YtchgelfomnbpaaaDoorZ05
namespace Go.Proofs.YtchgelfomnbpaaaDoor
open Go.Lib

theorem valS_nil (lp : LoopF) (depth : Nat) : valS lp depth [] = .error 70 := by
  unfold valS
  have : blanksL [] = [] := rfl
  rw [this]
  simp [nullW, falseW, trueW, numLen_nil]
theorem valJ_nil : ∀ n depth, valJ n depth [] = .error 70
  | 0, depth => by rw [valJ]
  | n + 1, depth => by rw [valJ_succ]; exact valS_nil _ _
theorem loopJ_nil : ∀ n depth obj ns vs, loopJ n depth obj ns vs [] = .error 70
  | 0, depth, obj, ns, vs => by rw [loopJ]
  | n + 1, depth, obj, ns, vs => by
    rw [loopJ_succ]
    unfold loopS
    cases obj with
    | true => rfl
    | false =>
      have e : namesL false ns [] = some (ns, []) := rfl
      rw [e]
      dsimp only
      rw [valJ_nil]
theorem loopS_app {vj vj' : ValF} {lp lp' : LoopF} {depth : Nat} {obj : Bool} {ns : List Bt} {vs : List JV} {s t : Bt} (hv : ∀ x v r, x.length ≤ s.length → vj (depth + 1) x = .ok (v, r) → r.length < x.length ∧ vj' (depth + 1) (x ++ t) = .ok (v, r ++ t)) (hl : ∀ ns vs x v r, x.length < s.length → lp depth obj ns vs x = .ok (v, r) → lp' depth obj ns vs (x ++ t) = .ok (v, r ++ t)) {v : JV} {r : Bt} (h : loopS vj lp depth obj ns vs s = .ok (v, r)) : loopS vj' lp' depth obj ns vs (s ++ t) = .ok (v, r ++ t) := by
  unfold loopS at h ⊢
  cases hn : namesL obj ns s with
  | none => rw [hn] at h; cases h
  | some y =>
    obtain ⟨ns', x⟩ := y
    have h1 := names_len hn
    rw [hn] at h
    rw [names_app t hn]
    dsimp only at h ⊢
    cases hj : vj (depth + 1) x with
    | error e => rw [hj] at h; cases h
    | ok z =>
      obtain ⟨v', u⟩ := z
      obtain ⟨h2, h3⟩ := hv x v' u h1 hj
      rw [hj] at h
      rw [h3]
      dsimp only at h ⊢
      have hbu := blanks_le u
      cases hb : blanksL u with
      | nil => rw [hb] at h; cases h
      | cons c r2 =>
        rw [hb] at h hbu
        rw [blanks_app t (by rw [hb]; simp), hb]
        simp only [List.length_cons] at hbu
        dsimp only [List.cons_append] at h ⊢
        split at h
        · rename_i hc
          cases h
          rw [if_pos hc]
        · rename_i hc
          rw [if_neg hc]
          split at h
          · cases h
          · rename_i hc2
            rw [if_neg hc2]
            exact hl _ _ _ _ _ (by omega) h
theorem extJ {t : Bt} (hE : Ends t) : ∀ n m, (∀ depth s v r, valJ n depth s = .ok (v, r) → 2 * (s ++ t).length + 1 ≤ m → valJ m depth (s ++ t) = .ok (v, r ++ t)) ∧ (∀ depth obj ns vs s v r, loopJ n depth obj ns vs s = .ok (v, r) → 2 * (s ++ t).length + 2 ≤ m → loopJ m depth obj ns vs (s ++ t) = .ok (v, r ++ t))
  | 0, m => ⟨(fun depth s v r h => by rw [valJ] at h; cases h), (fun depth obj ns vs s v r h => by rw [loopJ] at h; cases h)⟩
  | n + 1, 0 => ⟨fun _ _ _ _ _ h => by omega, fun _ _ _ _ _ _ _ _ h => by omega⟩
  | n + 1, m + 1 => by
    obtain ⟨h1, h2⟩ := extJ hE n m
    refine ⟨fun depth s v r h hm => ?_, fun depth obj ns vs s v r h hm => ?_⟩
    · rw [valJ_succ] at h ⊢
      rw [List.length_append] at hm
      exact valS_app hE (fun obj v r => by rw [loopJ_nil]; intro h; cases h) (fun obj x v r hx h => h2 _ _ _ _ _ _ _ h (by rw [List.length_append]; omega)) h
    · rw [loopJ_succ] at h ⊢
      rw [List.length_append] at hm
      exact loopS_app (fun x v r hx h => ⟨(lenJ n).1 _ _ _ _ h, h1 _ _ _ _ h (by rw [List.length_append]; omega)⟩) (fun ns vs x v r hx h => h2 _ _ _ _ _ _ _ h (by rw [List.length_append]; omega)) h
/-- What is read doesn't hang on the steps that are allowed, if there are enough. -/
theorem parse_at (b : Bt) (hb : b.length ≤ 65536) (n : Nat) (hn : 2 * b.length + 1 ≤ n) : parseJ b = (match valJ n 0 b with | .error e => .error e | .ok (v, r) => if blanksL r = [] then .ok v else .error 70) := by
  unfold parseJ
  rw [if_neg (by omega), (fuelJ (2 * b.length + 2) n).1 0 b (by omega) hn]
  rfl
/-- A second value behind one is wrong. -/
theorem parse_two {b t : Bt} {v : JV} (h : parseJ b = .ok v) (hE : Ends t) (ht : blanksL t ≠ []) (hl : (b ++ t).length ≤ 65536) : parseJ (b ++ t) = .error 70 := by
  have hbl : b.length ≤ 65536 := by rw [List.length_append] at hl; omega
  rw [parse_at b hbl _ (Nat.le_refl _)] at h
  rw [parse_at (b ++ t) hl _ (Nat.le_refl _)]
  cases hv : valJ (2 * b.length + 1) 0 b with
  | error e => rw [hv] at h; cases h
  | ok y =>
    obtain ⟨w, r⟩ := y
    rw [hv] at h
    rw [(extJ hE _ _).1 0 b w r hv (Nat.le_refl _)]
    dsimp only at h ⊢
    split at h
    · rename_i hr
      rw [blanks_none t hr, if_neg ht]
    · cases h
/-! ### Blanks behind -/
def AllBl (t : Bt) : Prop := ∀ c ∈ t, isBl c = true
theorem bl_eq {c : UInt8} (h : isBl c = true) : c = 32 ∨ c = 9 ∨ c = 10 ∨ c = 13 := by
  unfold isBl at h
  simp only [Bool.or_eq_true, beq_iff_eq] at h
  rcases h with ((h | h) | h) | h
  · exact .inl h
  · exact .inr (.inl h)
  · exact .inr (.inr (.inl h))
  · exact .inr (.inr (.inr h))
theorem AllBl.ends {t : Bt} (h : AllBl t) : Ends t := fun c hc => by
  cases t with
  | nil => cases hc
  | cons d t =>
    cases hc
    rcases bl_eq (h c (by simp)) with rfl | rfl | rfl | rfl <;> decide
theorem AllBl.blanks {t : Bt} (h : AllBl t) : blanksL t = [] := by
  have := blanks_pass t h []
  rw [List.append_nil] at this
  exact this
theorem scan_bl : ∀ (t : Bt), AllBl t → scanQ t = none
  | [], _ => rfl
  | c :: t, h => by
    have hc := bl_eq (h c (by simp))
    rw [scan_one (by rcases hc with rfl | rfl | rfl | rfl <;> decide) (by rcases hc with rfl | rfl | rfl | rfl <;> decide), scan_bl t (fun x hx => h x (by simp [hx]))]
    rfl
theorem scan_none {t : Bt} (ht : AllBl t) : ∀ s : Bt, scanQ s = none → scanQ (s ++ t) = none
  | [], _ => scan_bl t ht
  | c :: r, h => by
    by_cases h34 : c = 34
    · subst h34
      rw [scan_end] at h
      cases h
    · by_cases h92 : c = 92
      · subst h92
        cases r with
        | nil =>
          cases t with
          | nil => rfl
          | cons d t =>
            show scanQ (92 :: d :: t) = none
            rw [scan_two, scan_bl t (fun x hx => ht x (by simp [hx]))]
            rfl
        | cons d r =>
          rw [scan_two] at h
          show scanQ (92 :: d :: (r ++ t)) = none
          rw [scan_two]
          cases hr : scanQ r with
          | none => rw [scan_none ht r hr]; rfl
          | some y => rw [hr] at h; cases h
      · rw [scan_one h34 h92] at h
        show scanQ (c :: (r ++ t)) = none
        rw [scan_one h34 h92]
        cases hr : scanQ r with
        | none => rw [scan_none ht r hr]; rfl
        | some y => rw [hr] at h; cases h
theorem text_none {s t : Bt} (ht : AllBl t) (h : textL s = none) : textL (s ++ t) = none := by
  unfold textL at h ⊢
  cases s with
  | nil =>
    cases t with
    | nil => rfl
    | cons d t =>
      show (if d = 34 then _ else none) = none
      rw [if_neg (by rcases bl_eq (ht d (by simp)) with rfl | rfl | rfl | rfl <;> decide)]
  | cons c s =>
    dsimp only [List.cons_append] at h ⊢
    split at h
    · rename_i hc
      rw [if_pos hc]
      cases hs : scanQ s with
      | none => rw [scan_none ht s hs]
      | some y =>
        obtain ⟨a, b⟩ := y
        rw [hs] at h
        rw [scan_app t s a b hs]
        dsimp only at h ⊢
        cases hu : unjq a with
        | none => rfl
        | some z => rw [hu] at h; cases h
    · rename_i hc
      rw [if_neg hc]
theorem member_none {s t : Bt} (ht : AllBl t) (h : memberL s = none) : memberL (s ++ t) = none := by
  unfold memberL at h ⊢
  by_cases hs : blanksL s = []
  · rw [blanks_none t hs, ht.blanks]
    rfl
  · rw [blanks_app t hs]
    cases htx : textL (blanksL s) with
    | none => rw [text_none ht htx]
    | some y =>
      obtain ⟨x', r'⟩ := y
      rw [htx] at h
      rw [text_app t htx]
      dsimp only at h ⊢
      cases hb : blanksL r' with
      | nil => rw [blanks_none t hb, ht.blanks]
      | cons c r2 =>
        rw [hb] at h
        rw [blanks_app t (by rw [hb]; simp), hb]
        dsimp only [List.cons_append] at h ⊢
        split at h
        · cases h
        · rename_i hc
          rw [if_neg hc]
theorem names_none {obj : Bool} {ns : List Bt} {s t : Bt} (ht : AllBl t) (h : namesL obj ns s = none) : namesL obj ns (s ++ t) = none := by
  unfold namesL at h ⊢
  cases obj with
  | false => cases h
  | true =>
    rw [if_pos rfl] at h ⊢
    cases hm : memberL s with
    | none => rw [member_none ht hm]; rfl
    | some y => rw [hm] at h; cases h
theorem pre_bl {t : Bt} (ht : AllBl t) : ∀ (w s : Bt), (∀ c ∈ w, isBl c = false) → w.isPrefixOf (s ++ t) = w.isPrefixOf s
  | [], s, _ => by cases s <;> cases t <;> rfl
  | a :: w, [], h => by
    cases t with
    | nil => rfl
    | cons d t =>
      have hd := ht d (by simp)
      have ha := h a (by simp)
      have : List.isPrefixOf (a :: w) (d :: t) = false := pre_ne (fun e => by subst e; rw [hd] at ha; cases ha) _ _
      exact this
  | a :: w, c :: s, h => by
    show (a == c && w.isPrefixOf (s ++ t)) = (a == c && w.isPrefixOf s)
    rw [pre_bl ht w s (fun x hx => h x (by simp [hx]))]
theorem valS_err {lp lp' : LoopF} {depth : Nat} {s t : Bt} (ht : AllBl t) (hnil : ∀ obj e, lp depth obj [] [] [] = .error e → lp' depth obj [] [] [] = .error e) (hl : ∀ obj x e, x.length < s.length → lp depth obj [] [] x = .error e → lp' depth obj [] [] (x ++ t) = .error e) {e : Int} (h : valS lp depth s = .error e) : valS lp' depth (s ++ t) = .error e := by
  have hbl := blanks_le s
  rw [← valS_blanks] at h
  by_cases hne : blanksL s = []
  · rw [hne, valS_nil] at h
    rw [← valS_blanks lp', blanks_none t hne, ht.blanks, valS_nil]
    exact h
  · rw [← valS_blanks lp', blanks_app t hne]
    cases hx : blanksL s with
    | nil => exact absurd hx hne
    | cons c x =>
      have hb := blanks_head hx
      rw [hx] at h hbl
      have p1 := pre_bl ht nullW (c :: x) (by decide)
      have p2 := pre_bl ht falseW (c :: x) (by decide)
      have p3 := pre_bl ht trueW (c :: x) (by decide)
      have hna := num_append ht.ends (show c :: x ≠ [] by simp)
      unfold valS at h ⊢
      rw [List.cons_append] at p1 p2 p3 hna ⊢
      rw [blanks_keep hb] at h ⊢
      dsimp only at h ⊢
      rw [p1, p2, p3]
      split at h
      · cases h
      · rename_i h1
        rw [if_neg h1]
        split at h
        · cases h
        · rename_i h2
          rw [if_neg h2]
          split at h
          · cases h
          · rename_i h3
            rw [if_neg h3]
            split at h
            · rename_i h34
              rw [if_pos (show (c :: (x ++ t)).head? = some 34 from h34)]
              cases htx : textL (c :: x) with
              | none =>
                have := text_none ht htx
                rw [List.cons_append] at this
                rw [htx] at h
                rw [this]
                exact h
              | some y => rw [htx] at h; cases h
            · rename_i h34
              rw [if_neg (show ¬ ((c :: (x ++ t)).head? = some 34) from h34)]
              split at h
              · rename_i hbr
                rw [if_pos (show (c :: (x ++ t)).head? ≠ some 91 ∧ (c :: (x ++ t)).head? ≠ some 123 from hbr), hna]
                split at h
                · rename_i hn
                  rw [if_pos hn]
                  exact h
                · cases h
              · rename_i hbr
                rw [if_neg (show ¬ ((c :: (x ++ t)).head? ≠ some 91 ∧ (c :: (x ++ t)).head? ≠ some 123) from hbr)]
                split at h
                · rename_i hd
                  rw [if_pos hd]
                  exact h
                · rename_i hd
                  rw [if_neg hd]
                  have hbx := blanks_le x
                  have e1 : decide ((c :: (x ++ t)).head? = some 123) = decide ((c :: x).head? = some 123) := rfl
                  have e2 : (c :: (x ++ t)).drop 1 = x ++ t := rfl
                  have e3 : (c :: x).drop 1 = x := rfl
                  rw [e1, e2]
                  rw [e3] at h
                  generalize decide ((c :: x).head? = some 123) = ob at h ⊢
                  by_cases hxn : blanksL x = []
                  · rw [hxn] at h
                    rw [blanks_none t hxn, ht.blanks]
                    split at h
                    · cases h
                    · rename_i he
                      rw [if_neg he]
                      exact hnil _ _ h
                  · rw [blanks_app t hxn]
                    cases hx2 : blanksL x with
                    | nil => exact absurd hx2 hxn
                    | cons d y =>
                      rw [hx2] at h hbx
                      split at h
                      · cases h
                      · rename_i he
                        rw [if_neg (show ¬ ((d :: y ++ t).head? = _) from he)]
                        exact hl _ _ _ (by simp at hbl hbx ⊢; omega) h
theorem loopS_err {vj vj' : ValF} {lp lp' : LoopF} {depth : Nat} {obj : Bool} {ns : List Bt} {vs : List JV} {s t : Bt} (ht : AllBl t) (hv : ∀ x v r, x.length ≤ s.length → vj (depth + 1) x = .ok (v, r) → r.length < x.length ∧ vj' (depth + 1) (x ++ t) = .ok (v, r ++ t)) (hve : ∀ x e, x.length ≤ s.length → vj (depth + 1) x = .error e → vj' (depth + 1) (x ++ t) = .error e) (hl : ∀ ns vs x e, x.length < s.length → lp depth obj ns vs x = .error e → lp' depth obj ns vs (x ++ t) = .error e) {e : Int} (h : loopS vj lp depth obj ns vs s = .error e) : loopS vj' lp' depth obj ns vs (s ++ t) = .error e := by
  unfold loopS at h ⊢
  cases hn : namesL obj ns s with
  | none =>
    rw [hn] at h
    rw [names_none ht hn]
    exact h
  | some y =>
    obtain ⟨ns', x⟩ := y
    have h1 := names_len hn
    rw [hn] at h
    rw [names_app t hn]
    dsimp only at h ⊢
    cases hj : vj (depth + 1) x with
    | error e' =>
      rw [hj] at h
      rw [hve x e' h1 hj]
      exact h
    | ok z =>
      obtain ⟨v', u⟩ := z
      obtain ⟨h2, h3⟩ := hv x v' u h1 hj
      rw [hj] at h
      rw [h3]
      dsimp only at h ⊢
      have hbu := blanks_le u
      cases hb : blanksL u with
      | nil =>
        rw [hb] at h
        rw [blanks_none t hb, ht.blanks]
        exact h
      | cons c r2 =>
        rw [hb] at h hbu
        rw [blanks_app t (by rw [hb]; simp), hb]
        simp only [List.length_cons] at hbu
        dsimp only [List.cons_append] at h ⊢
        split at h
        · cases h
        · rename_i hc
          rw [if_neg hc]
          split at h
          · rename_i hc2
            rw [if_pos hc2]
            exact h
          · rename_i hc2
            rw [if_neg hc2]
            exact hl _ _ _ _ (by omega) h
theorem errJ {t : Bt} (ht : AllBl t) : ∀ n m, (∀ depth s e, valJ n depth s = .error e → 2 * s.length + 1 ≤ n → 2 * (s ++ t).length + 1 ≤ m → valJ m depth (s ++ t) = .error e) ∧ (∀ depth obj ns vs s e, loopJ n depth obj ns vs s = .error e → 2 * s.length + 2 ≤ n → 2 * (s ++ t).length + 2 ≤ m → loopJ m depth obj ns vs (s ++ t) = .error e)
  | 0, m => ⟨fun _ _ _ _ h => by omega, fun _ _ _ _ _ _ _ h => by omega⟩
  | n + 1, 0 => ⟨fun _ _ _ _ _ h => by omega, fun _ _ _ _ _ _ _ _ h => by omega⟩
  | n + 1, m + 1 => by
    obtain ⟨h1, h2⟩ := errJ ht n m
    refine ⟨fun depth s e h hn hm => ?_, fun depth obj ns vs s e h hn hm => ?_⟩
    · rw [valJ_succ] at h ⊢
      rw [List.length_append] at hm
      exact valS_err ht (fun obj e h => by rw [loopJ_nil] at h ⊢; exact h) (fun obj x e hx h => h2 _ _ _ _ _ _ h (by omega) (by rw [List.length_append]; omega)) h
    · rw [loopJ_succ] at h ⊢
      rw [List.length_append] at hm
      exact loopS_err ht (fun x v r hx h => ⟨(lenJ n).1 _ _ _ _ h, (extJ ht.ends n m).1 _ _ _ _ h (by rw [List.length_append]; omega)⟩) (fun x e hx h => h1 _ _ _ h (by omega) (by rw [List.length_append]; omega)) (fun ns vs x e hx h => h2 _ _ _ _ _ _ h (by omega) (by rw [List.length_append]; omega)) h
/-- Blanks around change nothing. -/
theorem parse_blanks {a b t : Bt} (ha : AllBl a) (ht : AllBl t) (hl : (a ++ b ++ t).length ≤ 65536) : parseJ (a ++ b ++ t) = parseJ b := by
  have hl2 : a.length + b.length + t.length ≤ 65536 := by rw [List.length_append, List.length_append] at hl; exact hl
  rw [parse_at _ hl _ (Nat.le_refl _), parse_at b (by omega) _ (Nat.le_refl _)]
  have e1 : valJ (2 * (a ++ b ++ t).length + 1) 0 (a ++ b ++ t) = valJ (2 * (a ++ b ++ t).length + 1) 0 (b ++ t) := by
    rw [← valJ_blanks _ _ (a ++ b ++ t), List.append_assoc, blanks_pass a ha, valJ_blanks]
  rw [e1]
  have hm : 2 * (b ++ t).length + 1 ≤ 2 * (a ++ b ++ t).length + 1 := by
    rw [List.length_append, List.length_append, List.length_append]
    omega
  cases hv : valJ (2 * b.length + 1) 0 b with
  | error e => rw [(errJ ht _ _).1 0 b e hv (Nat.le_refl _) hm]
  | ok y =>
    obtain ⟨w, r⟩ := y
    rw [(extJ ht.ends _ _).1 0 b w r hv hm]
    dsimp only
    by_cases hr : blanksL r = []
    · rw [if_pos hr, blanks_none t hr, ht.blanks, if_pos rfl]
    · rw [if_neg hr, blanks_app t hr, if_neg (by cases hx : blanksL r with | nil => exact absurd hx hr | cons c x => simp)]
end Go.Proofs.YtchgelfomnbpaaaDoor
namespace Go.Proofs.YtchgelfomnbpaaaDoor
open Go.Lib

/-- What opens a list, or an object's member of the name k. -/
def opnL (obj : Bool) : Bt := if obj then [123, 34, 107, 34, 58] else [91]
theorem unjq_k : unjq [107] = some [107] := by decide +kernel
theorem member_k (r : Bt) : memberL (34 :: 107 :: 34 :: 58 :: r) = some ([107], r) := by
  unfold memberL
  rw [blanks_keep (by decide)]
  have e : textL (34 :: 107 :: 34 :: 58 :: r) = some ([107], 58 :: r) := by
    unfold textL
    dsimp only
    rw [if_pos rfl, scan_one (by decide) (by decide), scan_end]
    dsimp only [Option.map]
    rw [unjq_k]
  rw [e]
  dsimp only
  rw [blanks_keep (by decide)]
  rfl
theorem opn_head (o : Bool) (r : Bt) : ∃ c t, opnL o ++ r = c :: t ∧ isBl c = false ∧ (c = 91 ∨ c = 123) := by
  cases o
  · exact ⟨91, r, rfl, by decide, .inl rfl⟩
  · exact ⟨123, 34 :: 107 :: 34 :: 58 :: r, rfl, by decide, .inr rfl⟩
theorem deepJ : ∀ (os : List Bool) (n depth : Nat) (r : Bt), depth ≤ 24 → 25 ≤ depth + os.length → 2 * (os.flatMap opnL ++ r).length + 1 ≤ n → valJ n depth (os.flatMap opnL ++ r) = .error 71
  | [], n, depth, r, h1, h2, _ => by simp at h2; omega
  | o :: os, 0, depth, r, _, _, h => by omega
  | o :: os, n + 1, depth, r, h1, h2, hn => by
    obtain ⟨X, hX⟩ : ∃ X, os.flatMap opnL ++ r = X := ⟨_, rfl⟩
    have e : (o :: os).flatMap opnL ++ r = opnL o ++ X := by rw [← hX]; simp
    rw [e] at hn ⊢
    rw [valJ_succ]
    obtain ⟨c, t, ec, hb, hc⟩ := opn_head o X
    have hne : c ≠ 110 ∧ c ≠ 102 ∧ c ≠ 116 ∧ c ≠ 34 ∧ ¬ (c ≠ 91 ∧ c ≠ 123) := by
      rcases hc with rfl | rfl <;> exact ⟨by decide, by decide, by decide, by decide, by decide⟩
    rw [ec, valS_other _ _ hb hne.1 hne.2.1 hne.2.2.1, if_neg hne.2.2.2.1, if_neg hne.2.2.2.2]
    by_cases hd : depth = 24
    · rw [if_pos hd]
    · rw [if_neg hd]
      have hlen : 1 ≤ os.length := by simp at h2; omega
      obtain ⟨o', os', rfl⟩ : ∃ o' os', os = o' :: os' := by
        cases os with
        | nil => simp at hlen
        | cons a b => exact ⟨a, b, rfl⟩
      obtain ⟨c', t', ec', hb', hc'⟩ := opn_head o' (os'.flatMap opnL ++ r)
      have eX : X = c' :: t' := by rw [← hX, ← ec']; simp
      cases o with
      | false =>
        have ht : c = 91 ∧ t = X := by
          have : opnL false ++ X = 91 :: X := rfl
          rw [this] at ec
          cases ec
          exact ⟨rfl, rfl⟩
        obtain ⟨rfl, rfl⟩ := ht
        have hbl : blanksL t = t := by rw [eX]; exact blanks_keep hb' _
        rw [hbl, if_neg (by rw [eX]; intro h; have := Option.some.inj h; rcases hc' with rfl | rfl <;> cases this)]
        have hn' : 2 * t.length + 2 ≤ n := by
          have : (opnL false ++ t).length = t.length + 1 := by rw [show opnL false ++ t = 91 :: t from rfl]; rfl
          omega
        cases n with
        | zero => omega
        | succ n =>
          rw [loopJ_succ]
          unfold loopS
          have e1 : namesL (decide ((91 : UInt8) = 123)) [] t = some ([], t) := rfl
          rw [e1]
          dsimp only
          have := deepJ (o' :: os') n (depth + 1) r (by omega) (by simp at h2 ⊢; omega) (by rw [hX]; omega)
          rw [hX] at this
          rw [this]
      | true =>
        have ht : c = 123 ∧ t = 34 :: 107 :: 34 :: 58 :: X := by
          have : opnL true ++ X = 123 :: 34 :: 107 :: 34 :: 58 :: X := rfl
          rw [this] at ec
          cases ec
          exact ⟨rfl, rfl⟩
        obtain ⟨rfl, rfl⟩ := ht
        rw [blanks_keep (by decide), if_neg (by intro h; have := Option.some.inj h; cases this)]
        have hn' : 2 * X.length + 4 ≤ n := by
          have : (opnL true ++ X).length = X.length + 5 := by rw [show opnL true ++ X = 123 :: 34 :: 107 :: 34 :: 58 :: X from rfl]; rfl
          omega
        cases n with
        | zero => omega
        | succ n =>
          rw [loopJ_succ]
          unfold loopS
          have e1 : namesL (decide ((123 : UInt8) = 123)) [] (34 :: 107 :: 34 :: 58 :: X) = some ([[107]], X) := by
            unfold namesL
            rw [if_pos (by decide), member_k]
            rfl
          rw [e1]
          dsimp only
          have := deepJ (o' :: os') n (depth + 1) r (by omega) (by simp at h2 ⊢; omega) (by rw [hX]; omega)
          rw [hX] at this
          rw [this]
theorem parse_deep (os : List Bool) (r : Bt) (h : 25 ≤ os.length) (hl : (os.flatMap opnL ++ r).length ≤ 65536) : parseJ (os.flatMap opnL ++ r) = .error 71 := by
  rw [parse_at _ hl _ (Nat.le_refl _), deepJ os _ 0 r (by omega) (by omega) (Nat.le_refl _)]
end Go.Proofs.YtchgelfomnbpaaaDoor
namespace Go.Proofs.YtchgelfomnbpaaaDoor
open Go.Lib

mutual
def depthJ : JV → Nat
  | .mk k _ _ l => if k = 5 ∨ k = 6 then depthsJ l + 1 else 0
def depthsJ : List JV → Nat
  | [] => 0
  | v :: l => max (depthJ v) (depthsJ l)
end
mutual
theorem right_depth : ∀ (v : JV) (d : Nat), d ≤ 24 → rightJ d v = true → d + depthJ v ≤ 24
  | .mk k t ns l, d, hd, h => by
    rw [depthJ]
    split
    · rename_i hk
      rcases right_cases h with ⟨h0, _⟩ | ⟨h0, _⟩ | ⟨h0, _⟩ | ⟨_, _, _, h24, hr⟩ | ⟨_, _, _, _, h24, hr⟩
      · omega
      · omega
      · omega
      · have := rights_depth l (d + 1) (by omega) hr
        omega
      · have := rights_depth l (d + 1) (by omega) hr
        omega
    · omega
theorem rights_depth : ∀ (l : List JV) (d : Nat), d ≤ 24 → rightsJ d l = true → d + depthsJ l ≤ 24
  | [], d, hd, _ => by rw [depthsJ]; omega
  | v :: l, d, hd, h => by
    rw [rightsJ] at h
    have h1 := right_depth v d hd (Bool.and_eq_true _ _ ▸ h).1
    have h2 := rights_depth l d hd (Bool.and_eq_true _ _ ▸ h).2
    rw [depthsJ]
    omega
end
mutual
theorem right_at : ∀ (v : JV) (d e : Nat), rightJ d v = true → e + depthJ v ≤ 24 → rightJ e v = true
  | .mk k t ns l, d, e, h, he => by
    have hcs : (k = 5 ∨ k = 6) → e ≠ 24 ∧ (rightsJ (d + 1) l = true → rightsJ (e + 1) l = true) := fun hk => by
      rw [depthJ, if_pos hk] at he
      exact ⟨by omega, fun hr => rights_at l (d + 1) (e + 1) hr (by omega)⟩
    rw [rightJ] at h ⊢
    split at h
    · cases h
    · rename_i h1
      rw [if_neg h1]
      split at h
      · cases h
      · rename_i h2
        rw [if_neg h2]
        split at h
        · rename_i h3
          rw [if_pos h3]
          exact h
        · rename_i h3
          rw [if_neg h3]
          split at h
          · rename_i h4
            rw [if_pos h4]
            exact h
          · rename_i h4
            rw [if_neg h4]
            split at h
            · cases h
            · rename_i h5
              rw [Bool.and_eq_true] at h
              have h6 : ¬ (t ≠ [] ∨ 5 ≤ k ∧ e = 24) := fun hx => by
                rcases hx with hx | ⟨hx, hy⟩
                · exact h5 (.inl hx)
                · exact (hcs (by omega)).1 hy
              rw [if_neg h6, Bool.and_eq_true]
              refine ⟨h.1, ?_⟩
              by_cases hk : k = 5 ∨ k = 6
              · exact (hcs hk).2 h.2
              · have : l = [] := List.eq_nil_of_length_eq_zero (Nat.eq_zero_of_not_pos fun h0 => h2 (.inl ⟨by omega, h0⟩))
                subst this
                rw [rightsJ]
theorem rights_at : ∀ (l : List JV) (d e : Nat), rightsJ d l = true → e + depthsJ l ≤ 24 → rightsJ e l = true
  | [], d, e, _, _ => by rw [rightsJ]
  | v :: l, d, e, h, he => by
    rw [rightsJ] at h
    rw [depthsJ] at he
    rw [rightsJ, right_at v d e (Bool.and_eq_true _ _ ▸ h).1 (by omega), rights_at l d e (Bool.and_eq_true _ _ ▸ h).2 (by omega)]
    rfl
end
/-- What is written is read again. -/
theorem parse_print {v : JV} (h : rightJ 0 v = true) (hl : (printJ v).length ≤ 65536) : parseJ (printJ v) = .ok v := by
  rw [parse_at _ hl _ (Nat.le_refl _)]
  have := (rtJ (2 * (printJ v).length + 1)).1 v 0 [] h ends_nil (by rw [List.append_nil]; exact Nat.le_refl _)
  rw [List.append_nil] at this
  rw [this]
  rfl
/-- A list of right values is right. -/
theorem right_list {l : List JV} (h : ∀ v ∈ l, rightJ 0 v = true ∧ depthJ v < 24) : rightJ 0 (.mk 5 [] [] l) = true := by
  have hr : rightsJ 1 l = true := by
    induction l with
    | nil => rw [rightsJ]
    | cons v l ih =>
      have hv := h v (by simp)
      rw [rightsJ, right_at v 0 1 hv.1 (by omega), ih fun x hx => h x (by simp [hx])]
      rfl
  rw [rightJ]
  simp [hr]
/-- Texts with commas between, put together from the left. -/
def commaL (s : Bt) (first : Bool) (v : JV) : Bt := (if first then s else s ++ [44]) ++ printJ v
theorem join_snoc : ∀ (l : List JV) (v : JV), l ≠ [] → joinJ false [] (l ++ [v]) = joinJ false [] l ++ 44 :: printJ v
  | [], v, h => absurd rfl h
  | [a], v, _ => by
    show joinJ false [] [a, v] = _
    rw [joinJ, joinJ, restJ, restJ, restJ]
    simp
  | a :: b :: l, v, _ => by
    have ih := join_snoc (b :: l) v (by simp)
    show joinJ false [] (a :: (b :: (l ++ [v]))) = _
    have e1 : ∀ (x : JV) (y : List JV), joinJ false [] (a :: x :: y) = printJ a ++ 44 :: joinJ false [] (x :: y) := fun x y => by
      rw [joinJ, show List.drop 1 ([] : List Bt) = [] from rfl, rest_cons]
      rfl
    rw [e1, e1]
    rw [show b :: (l ++ [v]) = b :: l ++ [v] from rfl, ih]
    simp
theorem join_one (v : JV) : joinJ false [] [v] = printJ v := by
  rw [joinJ, restJ]
  simp
end Go.Proofs.YtchgelfomnbpaaaDoor
