/-
  Of the proofs of layer 8 (elements of XML): the parts XmS XmT XmU XmL XmV XmW XmX XmY. No conditions.
-/
import Derived.Test.YtklcjimmbkpbdaaGreatDoorZ01
namespace Go.Proofs.YtklcjimmbkpbdaaGreatDoor
open Go.Lib
theorem word_yes (w r : Bt) : wordL w (w ++ r) = some r := by
 unfold wordL
 rw [if_pos (by rw [List.isPrefixOf_iff_prefix]; exact List.prefix_append _ _), List.drop_left]
theorem word_no {w s : Bt} (h : w.isPrefixOf s = false) : wordL w s = none := by unfold wordL; rw [if_neg (by rw [h]; exact Bool.false_ne_true)]
theorem word_one (c d : UInt8) (r : Bt) : wordL [c] (d :: r) = if c = d then some r else none := by
 unfold wordL
 by_cases h : c = d
 ·subst h
  rw [if_pos (by simp [List.isPrefixOf]), if_pos rfl]
  rfl
 ·rw [if_neg (by simp [List.isPrefixOf, h]), if_neg h]
theorem word_nil (c : UInt8) (w : Bt) : wordL (c :: w) [] = none := word_no rfl
theorem word_cons (c d : UInt8) (w r : Bt) : wordL (c :: w) (d :: r) = if c = d then wordL w r else none := by
 unfold wordL
 by_cases h : c = d
 ·subst h
  rw [if_pos rfl]
  simp only [List.isPrefixOf, beq_self_eq_true, Bool.true_and, List.length_cons, List.drop_succ_cons]
 ·rw [if_neg (by simp [List.isPrefixOf, h]), if_neg h]
theorem to_one (c : UInt8) (r : Bt) : ∀ a : Bt, c ∉ a → toL [c] (a ++ c :: r) = some (a, r)
 | [], _ => by
  rw [List.nil_append, toL, if_pos (by simp [List.isPrefixOf])]
  rfl
 | d :: a, h => by
  have hd : c ≠ d := fun e => h (by rw [e]; exact List.mem_cons_self)
  rw [List.cons_append, toL, if_neg (by simp [List.isPrefixOf, hd]), to_one c r a (fun e => h (List.mem_cons_of_mem _ e))]
  rfl
theorem while_app {p : UInt8 → Bool} : ∀ (a r : Bt), a.all p = true → (r = [] ∨ ∃ c t, r = c :: t ∧ p c = false) → (a ++ r).takeWhile p = a ∧ (a ++ r).dropWhile p = r
 | [], r, _, h => by
  rcases h with rfl | ⟨c, t, rfl, hc⟩
  ·exact ⟨rfl, rfl⟩
  ·rw [List.nil_append, List.takeWhile_cons_of_neg (by simp [hc]), List.dropWhile_cons_of_neg (by simp [hc])]
   exact ⟨rfl, rfl⟩
 | c :: a, r, ha, h => by
  rw [List.all_cons, Bool.and_eq_true] at ha
  have ih := while_app a r ha.2 h
  rw [List.cons_append, List.takeWhile_cons_of_pos ha.1, List.dropWhile_cons_of_pos ha.1, ih.1, ih.2]
  exact ⟨rfl, rfl⟩
theorem name_beg {c : UInt8} {r : Bt} (h : isNameL (c :: r) = true) : begB c = true ∧ r.all goB = true := by
 unfold isNameL at h
 rw [Bool.and_eq_true] at h
 exact h
theorem name_w {nm r : Bt} (h : isNameL nm = true) (hr : r = [] ∨ ∃ c t, r = c :: t ∧ goB c = false) : nameW (nm ++ r) = nm.length := by
 cases nm with
 | nil => cases h
 | cons c t =>
  obtain ⟨h1, h2⟩ := name_beg h
  rw [List.cons_append, nameW, if_pos h1, (while_app t r h2 hr).1, List.length_cons]
  omega
theorem beg_not {c : UInt8} (h : begB c = true) : c ≠ 33 ∧ c ≠ 47 ∧ c ≠ 63 ∧ c ≠ 62 ∧ c ≠ 58 ∧ c ≠ 61 ∧ c ≠ 60 ∧ isBl c = false := by
 unfold begB at h
 rw [decide_eq_true_eq] at h
 have k : ∀ d : UInt8, d.toNat < 65 → c ≠ d := fun d hd e => by subst e; omega
 refine ⟨k 33 (by decide), k 47 (by decide), k 63 (by decide), k 62 (by decide), k 58 (by decide), k 61 (by decide), k 60 (by decide), ?_⟩
 unfold isBl
 rw [Bool.or_eq_false_iff, Bool.or_eq_false_iff, Bool.or_eq_false_iff]
 exact ⟨⟨⟨beq_eq_false_iff_ne.2 (k 32 (by decide)), beq_eq_false_iff_ne.2 (k 9 (by decide))⟩, beq_eq_false_iff_ne.2 (k 10 (by decide))⟩, beq_eq_false_iff_ne.2 (k 13 (by decide))⟩
theorem mark_plain {nm r : Bt} {c : UInt8} (h : isNameL nm = true) (hc : goB c = false) (h58 : c ≠ 58) : markL (nm ++ c :: r) = some (([], nm), c :: r) := by
 have hw := name_w h (r := c :: r) (.inr ⟨c, r, rfl, hc⟩)
 unfold markL
 have h0 : nm.length ≠ 0 := by
  cases nm with
  | nil => cases h
  | cons _ _ => simp
 rw [hw, if_neg h0, List.drop_left, List.take_left, word_one, if_neg (fun e => h58 e.symm)]
theorem blanks_id {c : UInt8} {r : Bt} (h : isBl c = false) : blanksL (c :: r) = c :: r := by unfold blanksL; rw [List.dropWhile_cons_of_neg (by simp [h])]
theorem blanks_one {c : UInt8} {r : Bt} (h : isBl c = true) : blanksL (c :: r) = blanksL r := by unfold blanksL; rw [List.dropWhile_cons_of_pos h]
theorem attr_space {a : XA} (h : rightAttrB a = true) : a.1 = [] ∧ a.2.1 ≠ xmlnsW := by
 unfold rightAttrB at h
 simp only [Bool.and_eq_true, beq_iff_eq, Bool.not_eq_true', beq_eq_false_iff_ne] at h
 exact ⟨h.1.1.1, h.1.1.2⟩
theorem find_snoc (p q v : Bt) : ∀ l : XS, findX (l ++ [(q, v)]) p = if q = p then some v else findX l p
 | [] => by
  show (match (none : Option Bt) with | some x => some x | none => if q = p then some v else none) = _
  rfl
 | (a, b) :: l => by
  rw [List.cons_append, findX, find_snoc p q v l]
  by_cases h : q = p
  ·rw [if_pos h, if_pos h]
  ·rw [if_neg h, if_neg h]
   rfl
theorem aside_no {c : UInt8} {r : Bt} (h : c ≠ 33 ∧ c ≠ 63) : asideL (60 :: c :: r) = some none := by
 unfold asideL
 rw [word_cons, if_pos rfl, word_cons, if_neg (fun e => h.1 e.symm)]
 simp only
 rw [word_cons, if_pos rfl, word_cons, if_neg (fun e => h.2 e.symm)]
theorem around_id {s : Bt} (h : asideL (blanksL s) = some none) : aroundL s = some (blanksL s) := by rw [aroundL_eq, h]

theorem parse_of {b : Bt} {p : XV × Int} (hl : b.length ≤ 65536) (hp : PT (unbomL b)) (h : docX (unbomL b) = p) : parseX b = p := by
 unfold parseX
 rw [if_neg (by omega), if_pos ((plain_iff _).2 hp), h]
theorem unbom_len (b : Bt) : (unbomL b).length ≤ b.length := by
 unfold unbomL
 split
 ·rw [List.length_drop]; omega
 ·exact Nat.le_refl _
def openP : Bt := [60, 112, 58, 97, 32, 120, 109, 108, 110, 115, 58, 112, 61, 39, 117, 39, 62]
def shutP : Bt := [60, 47, 112, 58, 97, 62]
def openQ : Bt := [60, 98, 62]
def shutQ : Bt := [60, 47, 98, 62]
def wrapX (s : Bt) : Nat → Bt
 | 0 => s
 | i + 1 => if i % 3 = 0 then openP ++ wrapX s i ++ shutP else openQ ++ wrapX s i ++ shutQ
theorem wrap_len (s : Bt) : ∀ n, (wrapX s n).length ≤ s.length + 23 * n
 | 0 => Nat.le_refl _
 | n + 1 => by
  have := wrap_len s n
  rw [wrapX]
  split <;> simp only [List.length_append, openP, shutP, openQ, shutQ, List.length_cons, List.length_nil] <;> omega
theorem wrap_pt {s : Bt} (h : PT s) : ∀ n, PT (wrapX s n)
 | 0 => h
 | n + 1 => by
  rw [wrapX]
  split
  ·exact ((PT.ascii (by decide)).append (wrap_pt h n)).append (PT.ascii (by decide))
  ·exact ((PT.ascii (by decide)).append (wrap_pt h n)).append (PT.ascii (by decide))
theorem mark_P (r : Bt) : markL (112 :: 58 :: 97 :: 32 :: r) = some (([112], [97]), 32 :: r) := by
 have h1 : nameW (112 :: 58 :: 97 :: 32 :: r) = 1 := by
  simp only [nameW]
  rw [if_pos (by decide), List.takeWhile_cons_of_neg (by decide)]
  rfl
 have h2 : nameW (97 :: 32 :: r) = 1 := by
  simp only [nameW]
  rw [if_pos (by decide), List.takeWhile_cons_of_neg (by decide)]
  rfl
 unfold markL
 rw [h1, if_neg (by decide)]
 rw [show (112 :: 58 :: 97 :: 32 :: r).drop 1 = 58 :: 97 :: 32 :: r from rfl, show wordL [58] (58 :: 97 :: 32 :: r) = some (97 :: 32 :: r) from word_yes [58] _]
 simp only
 rw [h2, if_neg (by decide)]
 rfl
theorem tag_P (r : Bt) : tagL (32 :: 120 :: 109 :: 108 :: 110 :: 115 :: 58 :: 112 :: 61 :: 39 :: 117 :: 39 :: 62 :: r) = some ([((xmlnsW, [112]), [117])], false, r) := by
 have h1 : nameW (120 :: 109 :: 108 :: 110 :: 115 :: 58 :: 112 :: 61 :: 39 :: 117 :: 39 :: 62 :: r) = 5 := by
  simp only [nameW]
  rw [if_pos (by decide)]
  rw [List.takeWhile_cons_of_pos (by decide), List.takeWhile_cons_of_pos (by decide), List.takeWhile_cons_of_pos (by decide), List.takeWhile_cons_of_pos (by decide), List.takeWhile_cons_of_neg (by decide)]
  rfl
 have h2 : nameW (112 :: 61 :: 39 :: 117 :: 39 :: 62 :: r) = 1 := by
  simp only [nameW]
  rw [if_pos (by decide), List.takeWhile_cons_of_neg (by decide)]
  rfl
 have hm : markL (120 :: 109 :: 108 :: 110 :: 115 :: 58 :: 112 :: 61 :: 39 :: 117 :: 39 :: 62 :: r) = some ((xmlnsW, [112]), 61 :: 39 :: 117 :: 39 :: 62 :: r) := by
  unfold markL
  rw [h1, if_neg (by decide)]
  rw [show (120 :: 109 :: 108 :: 110 :: 115 :: 58 :: 112 :: 61 :: 39 :: 117 :: 39 :: 62 :: r).drop 5 = 58 :: 112 :: 61 :: 39 :: 117 :: 39 :: 62 :: r from rfl, show wordL [58] (58 :: 112 :: 61 :: 39 :: 117 :: 39 :: 62 :: r) = some (112 :: 61 :: 39 :: 117 :: 39 :: 62 :: r) from word_yes [58] _]
  simp only
  rw [h2, if_neg (by decide)]
  rfl
 have hv : valueL (39 :: 117 :: 39 :: 62 :: r) = some ([117], 62 :: r) := by
  simp only [valueL]
  rw [if_pos (by simp), show toL [39] (117 :: 39 :: 62 :: r) = some ([117], 62 :: r) from to_one 39 (62 :: r) [117] (by decide)]
  simp only
  rw [if_neg (by decide), show refsL (linesL [117]) = some [117] by decide]
  rfl
 have ha : attrL (120 :: 109 :: 108 :: 110 :: 115 :: 58 :: 112 :: 61 :: 39 :: 117 :: 39 :: 62 :: r) = some (((xmlnsW, [112]), [117]), 62 :: r) := by
  unfold attrL
  rw [hm]
  simp only
  rw [blanks_id (by decide), show wordL [61] (61 :: 39 :: 117 :: 39 :: 62 :: r) = some (39 :: 117 :: 39 :: 62 :: r) from word_yes [61] _]
  simp only
  rw [blanks_id (by decide), hv]
  rfl
 rw [tagL_eq, blanks_one (by decide), blanks_id (by decide), word_cons, if_neg (by decide)]
 simp only
 rw [word_cons, if_neg (by decide)]
 simp only
 rw [if_neg (by simp only [List.length_cons]; omega), ha]
 simp only
 rw [tagL_eq, blanks_id (by decide), word_cons, if_neg (by decide)]
 simp only
 rw [show wordL [62] (62 :: r) = some r from word_yes [62] _]
 rfl
theorem mark_Q (r : Bt) : markL (98 :: 62 :: r) = some (([], [98]), 62 :: r) := mark_plain (nm := [98]) (c := 62) (by decide) (by decide) (by decide)
theorem tag_Q (r : Bt) : tagL (62 :: r) = some ([], false, r) := by
 rw [tagL_eq, blanks_id (by decide), word_cons, if_neg (by decide)]
 simp only
 rw [show wordL [62] (62 :: r) = some r from word_yes [62] _]
theorem start_P (sc : XS) : startX sc ([112], [97]) [((xmlnsW, [112]), [117])] = some (.mk [117] [97] [] [] [], sc ++ [([112], [117])]) := by
 unfold startX scopeX
 have e1 : declsX [((xmlnsW, [112]), [117])] = [([112], [117])] := by decide
 have e2 : othersX [((xmlnsW, [112]), [117])] = [] := by decide
 rw [e1, e2, if_neg (by decide)]
 simp only
 rw [find_snoc, if_pos rfl]
 rfl
theorem start_Q {sc : XS} {ar : Bt} (h : findX sc [] = some ar) : startX sc ([], [98]) [] = some (.mk ar [98] [] [] [], sc) := by
 unfold startX scopeX
 have e1 : declsX [] = [] := rfl
 have e2 : othersX [] = [] := rfl
 rw [e1, e2, if_neg (by decide)]
 simp only
 rw [List.append_nil, h]
 rfl
theorem kids_err {d : Nat} {sc : XS} {c : UInt8} {t : Bt} {e : Int} (hc : begB c = true) (h : elemX d sc (c :: t) = .error e) (ks : List XV) (x : Bt) : kidsX d sc (60 :: c :: t) ks x = .error e := by
 have hc' := beg_not hc
 have w1 : wordL [60, 47] (60 :: c :: t) = none := by rw [word_cons, if_pos rfl, word_cons, if_neg (fun e => hc'.2.1 e.symm)]
 have w2 : wordL cdataW (60 :: c :: t) = none := by
  show wordL (60 :: 33 :: [91, 67, 68, 65, 84, 65, 91]) _ = none
  rw [word_cons, if_pos rfl, word_cons, if_neg (fun e => hc'.1 e.symm)]
 rw [kidsX_eq, w1, w2, aside_no ⟨hc'.1, hc'.2.2.1⟩, show wordL [60] (60 :: c :: t) = some (c :: t) from word_yes [60] _]
 simp only
 rw [h]
theorem wrap_beg (s : Bt) (i : Nat) : ∃ c t, wrapX s (i + 1) = 60 :: c :: t ∧ begB c = true := by
 rw [wrapX]
 split
 ·exact ⟨112, _, rfl, by decide⟩
 ·exact ⟨98, _, rfl, by decide⟩
theorem wrap_deep (s : Bt) : ∀ (i d : Nat) (sc : XS) (ar r : Bt), 24 ≤ d + i → d ≤ 24 → findX sc [] = some ar → elemX d sc ((wrapX s (i + 1)).drop 1 ++ r) = .error 71
 | i, d, sc, ar, r, h, hd, har => by
  rw [elemX_eq]
  by_cases hi : i % 3 = 0
  ·have e : (wrapX s (i + 1)).drop 1 ++ r = 112 :: 58 :: 97 :: 32 :: 120 :: 109 :: 108 :: 110 :: 115 :: 58 :: 112 :: 61 :: 39 :: 117 :: 39 :: 62 :: (wrapX s i ++ (shutP ++ r)) := by
    rw [wrapX, if_pos hi, List.append_assoc]
    show (openP.drop 1 ++ (wrapX s i ++ shutP)) ++ r = _
    rw [List.append_assoc, List.append_assoc]
    rfl
   rw [e, mark_P]
   simp only
   rw [tag_P]
   simp only
   rw [start_P]
   simp only
   by_cases h24 : d = 24
   ·rw [if_pos h24]
   ·rw [if_neg h24, if_neg (by decide)]
    cases i with
    | zero => omega
    | succ i =>
     obtain ⟨c, t, hw, hc⟩ := wrap_beg s i
     have ih := wrap_deep s i (d + 1) (sc ++ [([112], [117])]) ar (shutP ++ r) (by omega) (by omega) (by rw [find_snoc, if_neg (by decide)]; exact har)
     rw [hw] at ih ⊢
     have := kids_err (t := t ++ (shutP ++ r)) hc ih [] []
     rw [show (60 :: c :: t ++ (shutP ++ r) : Bt) = 60 :: c :: (t ++ (shutP ++ r)) from rfl, this]
  ·have e : (wrapX s (i + 1)).drop 1 ++ r = 98 :: 62 :: (wrapX s i ++ (shutQ ++ r)) := by
    rw [wrapX, if_neg hi, List.append_assoc]
    show (openQ.drop 1 ++ (wrapX s i ++ shutQ)) ++ r = _
    rw [List.append_assoc, List.append_assoc]
    rfl
   rw [e, mark_Q]
   simp only
   rw [tag_Q]
   simp only
   rw [start_Q har]
   simp only
   by_cases h24 : d = 24
   ·rw [if_pos h24]
   ·rw [if_neg h24, if_neg (by decide)]
    cases i with
    | zero => omega
    | succ i =>
     obtain ⟨c, t, hw, hc⟩ := wrap_beg s i
     have ih := wrap_deep s i (d + 1) sc ar (shutQ ++ r) (by omega) (by omega) har
     rw [hw] at ih ⊢
     have := kids_err (t := t ++ (shutQ ++ r)) hc ih [] []
     rw [show (60 :: c :: t ++ (shutQ ++ r) : Bt) = 60 :: c :: (t ++ (shutQ ++ r)) from rfl, this]
theorem parse_deep {s : Bt} (hs : PT s) (hl : s.length ≤ 300) (n : Nat) (h1 : 24 < n) (h2 : n < 60) : parseX (wrapX s n) = (zeroX, 71) := by
 obtain ⟨i, rfl⟩ : ∃ i, n = i + 1 := ⟨n - 1, by omega⟩
 have hle := wrap_len s (i + 1)
 obtain ⟨c, t, hw, hc⟩ := wrap_beg s i
 have hc' := beg_not hc
 have hu : unbomL (wrapX s (i + 1)) = wrapX s (i + 1) := by
  unfold unbomL
  rw [hw, if_neg (by simp [bomW, List.isPrefixOf])]
 refine parse_of (by omega) (by rw [hu]; exact wrap_pt hs _) ?_
 rw [hu]
 have hd := wrap_deep s i 0 scope0 [] [] (by omega) (by omega) (by decide)
 rw [List.append_nil, hw] at hd
 unfold docX
 rw [hw, around_id (by rw [blanks_id (by decide), aside_no ⟨hc'.1, hc'.2.2.1⟩]), blanks_id (by decide)]
 simp only
 rw [show wordL [60] (60 :: c :: t) = some (c :: t) from word_yes [60] _]
 simp only
 rw [show (c :: t : Bt) = (60 :: c :: t).drop 1 from rfl, hd]
theorem refQ_four (l : Bt) : (refQ l).2 = 0 ∨ 4 ≤ (refQ l).2 := by
 have hf : ∀ (a k : Nat) (p : Int), 1 ≤ a → (fin l a k p).2 = 0 ∨ 4 ≤ (fin l a k p).2 := fun a k p ha => by
  unfold fin
  split
  ·rename_i h
   right
   have := h.1
   show 4 ≤ a + k + 2
   omega
  ·exact .inl rfl
 unfold refQ
 repeat' split
 all_goals first | exact .inr (by decide) | exact hf _ _ _ (by decide) | exact .inl rfl
theorem refs_len : ∀ (n : Nat) (l x : Bt), l.length ≤ n → refsL l = some x → x.length ≤ l.length
 | 0, l, x, h, hx => by
  have : l = [] := List.eq_nil_of_length_eq_zero (by omega)
  subst this
  injection hx with hx
  subst hx
  exact Nat.le_refl _
 | n + 1, [], x, _, hx => by
  injection hx with hx
  subst hx
  exact Nat.le_refl _
 | n + 1, c :: r, x, h, hx => by
  simp only [List.length_cons] at h ⊢
  rw [refsL_cons] at hx
  split at hx
  ·split at hx
   ·cases hx
   ·rename_i h1
    cases hr : refsL (r.drop ((refQ r).2 - 1)) with
    | none => rw [hr] at hx; cases hx
    | some y =>
     rw [hr] at hx
     injection hx with hx
     subst hx
     have hd : (r.drop ((refQ r).2 - 1)).length = r.length - ((refQ r).2 - 1) := List.length_drop
     have := refs_len n _ y (by omega) hr
     have h4 := refQ_four r
     have h0 : (refQ r).2 ≠ 0 := fun e => h1 (.inl e)
     have hok := refQ_ok r
     have he := encodeRune_length (refQ r).1
     rw [List.length_append]
     rcases hok with e | ⟨_, _, h5, _⟩
     ·exact absurd (by rw [e]) h0
     ·omega
  ·cases hr : refsL r with
   | none => rw [hr] at hx; cases hx
   | some y =>
    rw [hr] at hx
    injection hx with hx
    subst hx
    have := refs_len n r y (by omega) hr
    simp only [List.length_cons]
    omega
theorem lines_le : ∀ (s : Bt), (linesL s).length ≤ s.length
 | [] => Nat.le_refl _
 | c :: r => by
  have := lines_le r
  unfold linesL
  split
  ·split <;> simp only [List.length_cons] <;> omega
  ·simp only [List.length_cons]; omega
theorem mark_parts {s r : Bt} {m : XN} (h : markL s = some (m, r)) : m.1.length + m.2.length + r.length ≤ s.length := by
 unfold markL at h
 split at h
 ·cases h
 ·have hl := nameW_le s
  cases h1 : wordL [58] (s.drop (nameW s)) with
  | none =>
   rw [h1] at h
   injection h with h
   injection h with e h
   rw [← h, ← e, List.length_drop]
   simp only [List.length_nil, List.length_take]
   omega
  | some x =>
   simp only [h1] at h
   split at h
   ·cases h
   ·injection h with h
    injection h with e h
    have := word_len h1
    have hx := nameW_le x
    rw [List.length_drop] at this
    simp only [List.length_cons, List.length_nil] at this
    rw [← h, ← e, List.length_drop]
    simp only [List.length_take]
    omega
theorem value_parts {s v r : Bt} (h : valueL s = some (v, r)) : v.length + r.length < s.length := by
 cases s with
 | nil => cases h
 | cons q t =>
  simp only [valueL] at h
  split at h
  ·cases ht : toL [q] t with
   | none => rw [ht] at h; cases h
   | some x =>
    obtain ⟨a, b⟩ := x
    rw [ht] at h
    simp only at h
    split at h
    ·cases h
    ·cases hr : refsL (linesL a) with
     | none => rw [hr] at h; cases h
     | some y =>
      rw [hr] at h
      injection h with h
      injection h with e1 e2
      have h1 := to_len ht
      have h2 := refs_len _ _ y (Nat.le_refl _) hr
      have h3 := lines_le a
      rw [← e1, ← e2]
      simp only [List.length_cons, List.length_nil] at h1 ⊢
      omega
  ·cases h
theorem attr_parts {s r : Bt} {m : XM} (h : attrL s = some (m, r)) : m.1.1.length + m.1.2.length + m.2.length + r.length < s.length := by
 unfold attrL at h
 cases h1 : markL s with
 | none => rw [h1] at h; cases h
 | some x =>
  obtain ⟨nm, s1⟩ := x
  simp only [h1] at h
  have g1 := mark_parts h1
  cases h2 : wordL [61] (blanksL s1) with
  | none => rw [h2] at h; cases h
  | some s2 =>
   simp only [h2] at h
   have g2 := word_len h2
   have b1 := blanks_le s1
   have b2 := blanks_le s2
   cases h3 : valueL (blanksL s2) with
   | none => rw [h3] at h; cases h
   | some y =>
    obtain ⟨v, r2⟩ := y
    rw [h3] at h
    injection h with h
    injection h with e1 e2
    have g3 := value_parts h3
    rw [← e1, ← e2]
    simp only [List.length_cons, List.length_nil] at g2
    simp only
    omega
theorem tag_parts : ∀ (n : Nat) {s r : Bt} {ms : List XM} {c : Bool}, s.length ≤ n → tagL s = some (ms, c, r) → (∀ m ∈ ms, m.1.1.length ≤ s.length ∧ m.1.2.length ≤ s.length ∧ m.2.length ≤ s.length) ∧ ms.length + r.length < s.length
 | 0, s, r, ms, c, hn, h => by
  have := tag_len h
  omega
 | n + 1, s, r, ms, c, hn, h => by
  have hl := tag_len h
  have hb := blanks_le s
  rw [tagL_eq] at h
  cases h1 : wordL [47, 62] (blanksL s) with
  | some x =>
   simp only [h1] at h
   injection h with h
   injection h with e1 e2
   rw [← e1]
   exact ⟨fun m hm => absurd hm List.not_mem_nil, by simp only [List.length_nil]; omega⟩
  | none =>
   simp only [h1] at h
   cases h2 : wordL [62] (blanksL s) with
   | some x =>
    simp only [h2] at h
    injection h with h
    injection h with e1 e2
    rw [← e1]
    exact ⟨fun m hm => absurd hm List.not_mem_nil, by simp only [List.length_nil]; omega⟩
   | none =>
    simp only [h2] at h
    split at h
    ·cases h
    ·cases h3 : attrL (blanksL s) with
     | none => rw [h3] at h; cases h
     | some y =>
      obtain ⟨m, r1⟩ := y
      simp only [h3] at h
      have g := attr_parts h3
      cases h4 : tagL r1 with
      | none => rw [h4] at h; cases h
      | some z =>
       obtain ⟨ms1, c1, r2⟩ := z
       rw [h4] at h
       injection h with h
       injection h with e1 e2
       injection e2 with e2 e3
       simp only at e1 e2 e3
       subst e1; subst e2; subst e3
       have ih := tag_parts n (by omega) h4
       refine ⟨fun m' hm => ?_, by simp only [List.length_cons]; omega⟩
       rcases List.mem_cons.1 hm with e | hm
       ·rw [e]; exact ⟨by omega, by omega, by omega⟩
       ·have := ih.1 m' hm
        exact ⟨by omega, by omega, by omega⟩
theorem text_parts {s x r : Bt} (h : textL s = some (x, r)) : x.length + r.length ≤ s.length := by
 unfold textL at h
 split at h
 ·cases h
 ·cases hr : refsL (linesL (s.takeWhile ltN)) with
  | none => rw [hr] at h; cases h
  | some y =>
   rw [hr] at h
   injection h with h
   injection h with e1 e2
   have h2 := refs_len _ _ y (Nat.le_refl _) hr
   have h3 := lines_le (s.takeWhile ltN)
   have h4 : (s.takeWhile ltN).length + (s.dropWhile ltN).length = s.length := by rw [← List.length_append, List.takeWhile_append_dropWhile]
   rw [← e1, ← e2]
   omega
def partX (d : Nat) (sc : XS) (s : Bt) (ks : List XV) (t : Bt) : Except Int (Bt × List XV × Bt) :=
 match wordL [60, 33, 45, 45] s with
 | some r => (match remL r with
  | none => .error 70
  | some r' => .ok (r', ks, t))
 | none => match wordL [60, 63] s with
  | some r => (match insL r with
   | none => .error 70
   | some r' => .ok (r', ks, t))
  | none => match wordL cdataW s with
   | some r => (match toL cdendW r with
    | none => .error 70
    | some (a, r') => .ok (r', ks, t ++ linesL a))
   | none => match wordL [60] s with
    | some r => (match elemX d sc r with
     | .error e => .error e
     | .ok (v, r') => .ok (r', allX ks t ++ [v], []))
    | none => match textL s with
     | none => .error 70
     | some (x, r) => .ok (r, ks, t ++ x)
theorem word_pre {w s r : Bt} (h : wordL w s = some r) : w.isPrefixOf s = true := by
 unfold wordL at h
 split at h
 ·assumption
 ·cases h
theorem word_excl {w w' s r : Bt} (h : wordL w s = some r) (h1 : w.isPrefixOf w' = false) (h2 : w'.isPrefixOf w = false) : wordL w' s = none := by
 cases h' : wordL w' s with
 | none => rfl
 | some x =>
  exfalso
  have a := List.isPrefixOf_iff_prefix.1 (word_pre h)
  have b := List.isPrefixOf_iff_prefix.1 (word_pre h')
  rcases List.prefix_or_prefix_of_prefix a b with c | c
  ·rw [List.isPrefixOf_iff_prefix.2 c] at h1; cases h1
  ·rw [List.isPrefixOf_iff_prefix.2 c] at h2; cases h2
theorem kids_part {d : Nat} {sc : XS} {s : Bt} {ks : List XV} {t : Bt} (h : wordL [60, 47] s = none) : kidsX d sc s ks t = match partX d sc s ks t with
    | .error e => .error e
    | .ok (r, ks', t') => kidsX d sc r ks' t' := by
 rw [kidsX_eq, h]
 simp only
 unfold partX asideL
 cases h1 : wordL [60, 33, 45, 45] s with
 | some r =>
  simp only [word_excl h1 (w' := cdataW) (by decide) (by decide)]
  cases remL r <;> rfl
 | none =>
  simp only
  cases h2 : wordL [60, 63] s with
  | some r =>
   simp only [word_excl h2 (w' := cdataW) (by decide) (by decide)]
   cases insL r <;> rfl
  | none =>
   simp only
   cases h3 : wordL cdataW s with
   | some r =>
    simp only
    cases toL cdendW r with
    | none => rfl
    | some x => rfl
   | none =>
    simp only
    cases h4 : wordL [60] s with
    | some r =>
     simp only
     cases elemX d sc r with
     | error e => rfl
     | ok x => rfl
    | none =>
     simp only
     cases textL s with
     | none => rfl
     | some x => rfl
theorem allX_len (ks : List XV) (t : Bt) : 2 * (allX ks t).length ≤ 2 * ks.length + t.length + 1 ∧ (t = [] → (allX ks t).length = ks.length) ∧ (allX ks t).length ≤ ks.length + 1 := by
 unfold allX
 split
 ·rename_i h; exact ⟨by omega, fun _ => rfl, by omega⟩
 ·rename_i h
  have : 0 < t.length := List.length_pos_iff.2 h
  rw [List.length_append, List.length_singleton]
  exact ⟨by omega, fun e => absurd e h, by omega⟩
theorem part_pot {d : Nat} {sc : XS} {s r : Bt} {ks ks' : List XV} {t t' : Bt} (h : partX d sc s ks t = .ok (r, ks', t')) : r.length < s.length ∧ 2 * ks'.length + t'.length + 2 * r.length ≤ 2 * ks.length + t.length + 2 * s.length := by
 unfold partX at h
 cases h1 : wordL [60, 33, 45, 45] s with
 | some x =>
  simp only [h1] at h
  have l1 := word_len h1
  simp only [List.length_cons, List.length_nil] at l1
  cases h2 : remL x with
  | none => rw [h2] at h; cases h
  | some y =>
   rw [h2] at h
   have l2 := rem_len h2
   injection h with h
   injection h with e1 h
   injection h with e2 e3
   subst e1; subst e2; subst e3
   omega
 | none =>
  simp only [h1] at h
  cases h3 : wordL [60, 63] s with
  | some x =>
   simp only [h3] at h
   have l1 := word_len h3
   simp only [List.length_cons, List.length_nil] at l1
   cases h2 : insL x with
   | none => rw [h2] at h; cases h
   | some y =>
    rw [h2] at h
    have l2 := ins_len h2
    injection h with h
    injection h with e1 h
    injection h with e2 e3
    subst e1; subst e2; subst e3
    omega
  | none =>
   simp only [h3] at h
   cases h4 : wordL cdataW s with
   | some x =>
    simp only [h4] at h
    have l1 := word_len h4
    simp only [cdataW, List.length_cons, List.length_nil] at l1
    cases h2 : toL cdendW x with
    | none => rw [h2] at h; cases h
    | some y =>
     obtain ⟨a, b⟩ := y
     rw [h2] at h
     have l2 := to_len h2
     have l3 := lines_le a
     injection h with h
     injection h with e1 h
     injection h with e2 e3
     subst e1; subst e2; subst e3
     rw [List.length_append]
     omega
   | none =>
    simp only [h4] at h
    cases h5 : wordL [60] s with
    | some x =>
     simp only [h5] at h
     have l1 := word_len h5
     simp only [List.length_cons, List.length_nil] at l1
     cases h2 : elemX d sc x with
     | error e => rw [h2] at h; cases h
     | ok y =>
      obtain ⟨v, b⟩ := y
      rw [h2] at h
      have l2 := elemX_len h2
      injection h with h
      injection h with e1 h
      injection h with e2 e3
      subst e1; subst e2; subst e3
      have l3 := allX_len ks t
      rw [List.length_append, List.length_singleton, List.length_nil]
      omega
    | none =>
     simp only [h5] at h
     cases h2 : textL s with
     | none => rw [h2] at h; cases h
     | some y =>
      obtain ⟨x, b⟩ := y
      rw [h2] at h
      have l2 := text_len h5 h2
      have l3 := text_parts h2
      injection h with h
      injection h with e1 h
      injection h with e2 e3
      subst e1; subst e2; subst e3
      rw [List.length_append]
      omega
theorem start_scope {sc sc' : XS} {nm : XN} {ms : List XM} {v : XV} (h : startX sc nm ms = some (v, sc')) : sc' = sc ++ declsX ms ∧ v.kids = [] ∧ v.text = [] := by
 unfold startX at h
 cases h1 : scopeX sc ms with
 | none => rw [h1] at h; cases h
 | some l =>
  simp only [h1] at h
  cases h2 : findX l nm.1 with
  | none => rw [h2] at h; cases h
  | some sp =>
   simp only [h2] at h
   cases h3 : mapX (attrX l) (othersX ms) with
   | none => rw [h3] at h; cases h
   | some r =>
    simp only [h3] at h
    split at h
    ·injection h with h
     injection h with e1 e2
     subst e1; subst e2
     refine ⟨?_, rfl, rfl⟩
     unfold scopeX at h1
     split at h1
     ·cases h1
     ·injection h1 with h1; exact h1.symm
    ·cases h
theorem decl_val {ms : List XM} {d : Bt × Bt} (h : d ∈ declsX ms) : ∃ m ∈ ms, d.2 = m.2 := by
 unfold declsX at h
 obtain ⟨m, hm, he⟩ := List.mem_filterMap.1 h
 cases hd : declX m with
 | none => rw [hd] at he; cases he
 | some p =>
  rw [hd] at he
  injection he with he
  exact ⟨m, hm, by rw [← he]⟩
def wA (l : List XA) : Nat := (l.map fun a => a.1.length + a.2.1.length + a.2.2.length + 1).sum
mutual
/-- How much a node has. -/
def wX : XV → Nat
 | .mk sp nm al ks tx => 1 + sp.length + nm.length + tx.length + wA al + wXs ks
def wXs : List XV → Nat
 | [] => 0
 | v :: l => wX v + wXs l
end
theorem wX_eq (v : XV) : wX v = 1 + v.space.length + v.name.length + v.text.length + wA v.attrs + wXs v.kids := by
 obtain ⟨sp, nm, al, ks, tx⟩ := v
 rw [wX]
 rfl
theorem wA_mem : ∀ {l : List XA} {a : XA}, a ∈ l → a.1.length + a.2.1.length + a.2.2.length + 1 ≤ wA l
 | b :: l, a, h => by
  rw [wA, List.map_cons, List.sum_cons]
  rcases List.mem_cons.1 h with e | h
  ·subst e; omega
  ·have := wA_mem h
   unfold wA at this
   omega
theorem wA_len (l : List XA) : l.length ≤ wA l := by
 induction l with
 | nil => exact Nat.le_refl _
 | cons a l ih =>
  unfold wA at ih ⊢
  rw [List.map_cons, List.sum_cons, List.length_cons]
  omega
theorem wXs_mem : ∀ {l : List XV} {v : XV}, v ∈ l → wX v ≤ wXs l
 | b :: l, v, h => by
  rw [wXs]
  rcases List.mem_cons.1 h with e | h
  ·subst e; omega
  ·have := wXs_mem h
   omega
theorem wXs_len (l : List XV) : l.length ≤ wXs l := by
 induction l with
 | nil => exact Nat.zero_le _
 | cons v l ih =>
  rw [wXs, List.length_cons, wX_eq]
  omega
theorem wXs_append (a b : List XV) : wXs (a ++ b) = wXs a + wXs b := by
 induction a with
 | nil => rw [List.nil_append, wXs]; omega
 | cons v a ih => rw [List.cons_append, wXs, wXs, ih]; omega
theorem uniq_names : ∀ {l : List XA}, l.all rightAttrB = true → uniqX l = decide (l.map (·.2.1)).Nodup := by
 intro l h
 have hs : ∀ a ∈ l, a.1 = [] := fun a ha => (attr_space (List.all_eq_true.1 h a ha)).1
 have e : l.map (fun a => (a.1, a.2.1)) = (l.map (·.2.1)).map (fun n => (([] : Bt), n)) := by
  rw [List.map_map]
  refine List.map_congr_left fun a ha => ?_
  rw [hs a ha]
  rfl
 unfold uniqX
 rw [e]
 have hn : ((l.map (·.2.1)).map (fun n => (([] : Bt), n))).Nodup ↔ (l.map (·.2.1)).Nodup := by
  constructor
  ·intro h
   unfold List.Nodup at h ⊢
   rw [List.pairwise_map] at h
   exact h.imp (fun hab e => hab (by rw [e]))
  ·intro h
   unfold List.Nodup at h ⊢
   rw [List.pairwise_map]
   exact h.imp (fun hab e => hab (congrArg Prod.snd e))
 exact decide_eq_decide.2 hn
theorem right_attrs {l : List XA} (h : l.all rightAttrB = true) : rightAttrsB l = uniqX l := by
 unfold rightAttrsB
 rw [h, uniq_names h, Bool.true_and]
theorem right_attrs_no {l : List XA} {k : Nat} (h : k < l.length) (hb : rightAttrB l[k] = false) : rightAttrsB l = false := by
 unfold rightAttrsB
 have : l.all rightAttrB = false := by
  cases hq : l.all rightAttrB with
  | false => rfl
  | true =>
   have := List.all_eq_true.1 hq _ (List.getElem_mem h)
   rw [hb] at this
   cases this
 rw [this, Bool.false_and]
def prevB (ks : List XV) : Nat → Bool
 | 0 => false
 | i + 1 => match ks[i]? with | some k => k.name == [] | none => false
theorem rightKids_step {f : XV → Bool} {ks : List XV} {i : Nat} (h : i < ks.length) : rightKidsB f (prevB ks i) (ks.drop i) = ((if ks[i].name = [] then rightTextB ks[i] && !prevB ks i else f ks[i]) && rightKidsB f (prevB ks (i + 1)) (ks.drop (i + 1))) := by
 rw [List.drop_eq_getElem_cons h, rightKidsB]
 congr 2
 show _ = match ks[i]? with | some k => k.name == [] | none => false
 rw [List.getElem?_eq_getElem h]
mutual
/-- How many nodes and attributes. -/
def cX : XV → Nat
 | .mk _ _ al ks _ => 1 + al.length + cXs ks
def cXs : List XV → Nat
 | [] => 0
 | v :: l => cX v + cXs l
end
theorem cX_eq (v : XV) : cX v = 1 + v.attrs.length + cXs v.kids := by
 obtain ⟨sp, nm, al, ks, tx⟩ := v
 rw [cX]
 rfl
theorem cXs_append (a b : List XV) : cXs (a ++ b) = cXs a + cXs b := by
 induction a with
 | nil => rw [List.nil_append, cXs]; omega
 | cons v a ih => rw [List.cons_append, cXs, cXs, ih]; omega
theorem cXs_mem : ∀ {l : List XV} {v : XV}, v ∈ l → cX v ≤ cXs l
 | b :: l, v, h => by
  rw [cXs]
  rcases List.mem_cons.1 h with e | h
  ·subst e; omega
  ·have := cXs_mem h
   omega
theorem cXs_len (l : List XV) : l.length ≤ cXs l := by
 induction l with
 | nil => exact Nat.zero_le _
 | cons v l ih =>
  rw [cXs, List.length_cons, cX_eq]
  omega
theorem allX_cX (ks : List XV) (t : Bt) : 2 * cXs (allX ks t) ≤ 2 * cXs ks + t.length + 2 ∧ (t = [] → cXs (allX ks t) = cXs ks) := by
 unfold allX
 by_cases h : t = []
 ·rw [if_pos h]
  exact ⟨by omega, fun _ => rfl⟩
 ·rw [if_neg h, cXs_append, cXs, cXs]
  have : cX (textX t) = 1 := by rw [cX_eq]; rfl
  exact ⟨by omega, fun e => absurd e h⟩
theorem mapX_len9 {α β : Type} {f : α → Option β} : ∀ {l : List α} {r : List β}, mapX f l = some r → r.length = l.length
 | [], r, h => by injection h with h; rw [← h]; rfl
 | a :: l, r, h => by
  rw [mapX] at h
  cases ha : f a with
  | none => rw [ha] at h; cases h
  | some b =>
   rw [ha] at h
   simp only at h
   cases hl : mapX f l with
   | none => rw [hl] at h; cases h
   | some q =>
    rw [hl] at h
    injection h with h
    rw [← h, List.length_cons, List.length_cons, mapX_len9 hl]
theorem start_cX {sc sc' : XS} {nm : XN} {ms : List XM} {v : XV} (h : startX sc nm ms = some (v, sc')) : cX v ≤ 1 + ms.length := by
 unfold startX at h
 cases h1 : scopeX sc ms with
 | none => rw [h1] at h; cases h
 | some s1 =>
  rw [h1] at h
  simp only at h
  cases h2 : findX s1 nm.1 with
  | none => rw [h2] at h; cases h
  | some sp =>
   rw [h2] at h
   simp only at h
   cases h3 : mapX (attrX s1) (othersX ms) with
   | none => rw [h3] at h; cases h
   | some l =>
    rw [h3] at h
    simp only at h
    split at h
    ·injection h with h
     injection h with e1 _
     have hl := mapX_len9 h3
     have ho : (othersX ms).length ≤ ms.length := List.length_filter_le _ _
     rw [← e1, cX, cXs]
     omega
    ·cases h
theorem withKids_cX (v : XV) (ks : List XV) (h : v.kids = []) : cX (v.withKids ks) = cX v + cXs ks := by
 obtain ⟨sp, nm, al, k0, tx⟩ := v
 have h' : k0 = [] := h
 subst h'
 show cX (.mk sp nm al ks tx) = _
 rw [cX, cX, cXs]
 omega
theorem kidsN_cX : ∀ (n : Nat), (∀ {d : Nat} {sc : XS} {s r : Bt} {v : XV}, elemN n d sc s = .ok (v, r) → cX v + r.length ≤ s.length) ∧ (∀ {d : Nat} {sc : XS} {s r : Bt} {ks l : List XV} {t : Bt}, kidsN n d sc s ks t = .ok (l, r) → 2 * cXs l + 2 * r.length ≤ 2 * cXs ks + t.length + 2 * s.length)
 | 0 => ⟨fun h => (by rw [elemN] at h; cases h), fun h => (by rw [kidsN] at h; cases h)⟩
 | n + 1 => by
  obtain ⟨ihE, ihK⟩ := kidsN_cX n
  constructor
  ·intro d sc s r v h
   rw [elemN] at h
   cases h1 : markL s with
   | none => simp only [h1] at h; cases h
   | some x =>
    obtain ⟨nm, s1⟩ := x
    simp only [h1] at h
    have l1 := mark_len h1
    cases h2 : tagL s1 with
    | none => simp only [h2] at h; cases h
    | some y =>
     obtain ⟨ms, c, s2⟩ := y
     simp only [h2] at h
     have l2 := (tag_parts _ (Nat.le_refl _) h2).2
     cases h3 : startX sc nm ms with
     | none => simp only [h3] at h; cases h
     | some z =>
      obtain ⟨v0, sc'⟩ := z
      simp only [h3] at h
      have l5 := start_cX h3
      have l6 := (start_scope h3).2.1
      split at h
      ·cases h
      ·split at h
       ·injection h with h
        injection h with e h
        subst h
        subst e
        omega
       ·cases h4 : kidsN n (d + 1) sc' s2 [] [] with
        | error e => simp only [h4] at h; cases h
        | ok u =>
         obtain ⟨ks, s3⟩ := u
         simp only [h4] at h
         have l3 := ihK h4
         rw [cXs, List.length_nil] at l3
         cases h5 : endX nm s3 with
         | none => simp only [h5] at h; cases h
         | some s4 =>
          simp only [h5] at h
          have l4 := end_len h5
          injection h with h
          injection h with e h
          subst h
          subst e
          rw [withKids_cX _ _ l6]
          omega
  ·intro d sc s r ks l t h
   rw [kidsN] at h
   cases h1 : wordL [60, 47] s with
   | some x =>
    simp only [h1] at h
    have l1 := word_len h1
    simp only [List.length_cons, List.length_nil] at l1
    injection h with h
    injection h with e1 e2
    subst e1; subst e2
    have := (allX_cX ks t).1
    omega
   | none =>
    simp only [h1] at h
    cases h2 : wordL cdataW s with
    | some x =>
     simp only [h2] at h
     have l2 := word_len h2
     simp only [cdataW, List.length_cons, List.length_nil] at l2
     cases h3 : toL cdendW x with
     | none => simp only [h3] at h; cases h
     | some y =>
      obtain ⟨a, b⟩ := y
      simp only [h3] at h
      have l3 := to_len h3
      have l4 := lines_le a
      have l5 := ihK h
      rw [List.length_append] at l5
      omega
    | none =>
     simp only [h2] at h
     cases h3 : asideL s with
     | none => simp only [h3] at h; cases h
     | some o =>
      cases o with
      | some x =>
       simp only [h3] at h
       have l3 := aside_len h3
       have l5 := ihK h
       omega
      | none =>
       simp only [h3] at h
       cases h4 : wordL [60] s with
       | some x =>
        simp only [h4] at h
        have l4 := word_len h4
        simp only [List.length_cons, List.length_nil] at l4
        cases h5 : elemN n d sc x with
        | error e => simp only [h5] at h; cases h
        | ok y =>
         obtain ⟨v, b⟩ := y
         simp only [h5] at h
         have l5 := ihE h5
         have l6 := ihK h
         have l7 := allX_cX ks t
         rw [cXs_append, cXs, cXs, List.length_nil] at l6
         omega
       | none =>
        simp only [h4] at h
        cases h5 : textL s with
        | none => simp only [h5] at h; cases h
        | some y =>
         obtain ⟨x, b⟩ := y
         simp only [h5] at h
         have l5 := text_parts h5
         have l6 := ihK h
         rw [List.length_append] at l6
         omega

end Go.Proofs.YtklcjimmbkpbdaaGreatDoor
