/-
  Of the proofs of layer 8 (elements of XML): the parts XmS XmT XmU XmL XmV XmW XmX XmY. No conditions.
-/
import Derived.Test.YtklcjimmbkpbdaaGreatDoorZ01
namespace Go.Proofs.YtklcjimmbkpbdaaGreatDoor
open Go.Lib

theorem word_yes (w r : Bt) : wordL w (w ++ r) = some r := by
  unfold wordL
  rw [if_pos (by rw [List.isPrefixOf_iff_prefix]; exact List.prefix_append _ _), List.drop_left]
theorem word_no {w s : Bt} (h : w.isPrefixOf s = false) : wordL w s = none := by unfold wordL; rw [if_neg (by rw [h]; exact Bool.false_ne_true)]
theorem word_one (c d : UInt8) (r : Bt) : wordL [c] (d :: r) = if c = d then some r else none := by
  unfold wordL
  by_cases h : c = d
  · subst h
    rw [if_pos (by simp [List.isPrefixOf]), if_pos rfl]
    rfl
  · rw [if_neg (by simp [List.isPrefixOf, h]), if_neg h]
theorem word_nil (c : UInt8) (w : Bt) : wordL (c :: w) [] = none := word_no rfl
theorem word_cons (c d : UInt8) (w r : Bt) : wordL (c :: w) (d :: r) = if c = d then wordL w r else none := by
  unfold wordL
  by_cases h : c = d
  · subst h
    rw [if_pos rfl]
    simp only [List.isPrefixOf, beq_self_eq_true, Bool.true_and, List.length_cons, List.drop_succ_cons]
  · rw [if_neg (by simp [List.isPrefixOf, h]), if_neg h]
theorem to_one (c : UInt8) (r : Bt) : ∀ a : Bt, c ∉ a → toL [c] (a ++ c :: r) = some (a, r)
  | [], _ => by
    rw [List.nil_append, toL, if_pos (by simp [List.isPrefixOf])]
    rfl
  | d :: a, h => by
    have hd : c ≠ d := fun e => h (by rw [e]; exact List.mem_cons_self)
    rw [List.cons_append, toL, if_neg (by simp [List.isPrefixOf, hd]), to_one c r a (fun e => h (List.mem_cons_of_mem _ e))]
    rfl
theorem to_none {c : UInt8} {w : Bt} (hc : c ∈ w) : ∀ s : Bt, c ∉ s → toL w s = none
  | [], _ => rfl
  | d :: s, h => by
    rw [toL, if_neg, to_none hc s (fun e => h (List.mem_cons_of_mem _ e))]
    · rfl
    · intro hp
      exact h ((List.isPrefixOf_iff_prefix.1 hp).subset hc)
theorem while_app {p : UInt8 → Bool} : ∀ (a r : Bt), a.all p = true → (r = [] ∨ ∃ c t, r = c :: t ∧ p c = false) → (a ++ r).takeWhile p = a ∧ (a ++ r).dropWhile p = r
  | [], r, _, h => by
    rcases h with rfl | ⟨c, t, rfl, hc⟩
    · exact ⟨rfl, rfl⟩
    · rw [List.nil_append, List.takeWhile_cons_of_neg (by simp [hc]), List.dropWhile_cons_of_neg (by simp [hc])]
      exact ⟨rfl, rfl⟩
  | c :: a, r, ha, h => by
    rw [List.all_cons, Bool.and_eq_true] at ha
    have ih := while_app a r ha.2 h
    rw [List.cons_append, List.takeWhile_cons_of_pos ha.1, List.dropWhile_cons_of_pos ha.1, ih.1, ih.2]
    exact ⟨rfl, rfl⟩
/-! ### Names -/
theorem name_beg {c : UInt8} {r : Bt} (h : isNameL (c :: r) = true) : begB c = true ∧ r.all goB = true := by
  unfold isNameL at h
  rw [Bool.and_eq_true] at h
  exact h
theorem name_w {nm r : Bt} (h : isNameL nm = true) (hr : r = [] ∨ ∃ c t, r = c :: t ∧ goB c = false) : nameW (nm ++ r) = nm.length := by
  cases nm with
  | nil => cases h
  | cons c t =>
    obtain ⟨h1, h2⟩ := name_beg h
    rw [List.cons_append, nameW, if_pos h1, (while_app t r h2 hr).1, List.length_cons]
    omega
theorem beg_not {c : UInt8} (h : begB c = true) : c ≠ 33 ∧ c ≠ 47 ∧ c ≠ 63 ∧ c ≠ 62 ∧ c ≠ 58 ∧ c ≠ 61 ∧ c ≠ 60 ∧ isBl c = false := by
  unfold begB at h
  rw [decide_eq_true_eq] at h
  have k : ∀ d : UInt8, d.toNat < 65 → c ≠ d := fun d hd e => by subst e; omega
  refine ⟨k 33 (by decide), k 47 (by decide), k 63 (by decide), k 62 (by decide), k 58 (by decide), k 61 (by decide), k 60 (by decide), ?_⟩
  unfold isBl
  rw [Bool.or_eq_false_iff, Bool.or_eq_false_iff, Bool.or_eq_false_iff]
  exact ⟨⟨⟨beq_eq_false_iff_ne.2 (k 32 (by decide)), beq_eq_false_iff_ne.2 (k 9 (by decide))⟩, beq_eq_false_iff_ne.2 (k 10 (by decide))⟩, beq_eq_false_iff_ne.2 (k 13 (by decide))⟩
theorem mark_plain {nm r : Bt} {c : UInt8} (h : isNameL nm = true) (hc : goB c = false) (h58 : c ≠ 58) : markL (nm ++ c :: r) = some (([], nm), c :: r) := by
  have hw := name_w h (r := c :: r) (.inr ⟨c, r, rfl, hc⟩)
  unfold markL
  have h0 : nm.length ≠ 0 := by
    cases nm with
    | nil => cases h
    | cons _ _ => simp
  rw [hw, if_neg h0, List.drop_left, List.take_left, word_one, if_neg (fun e => h58 e.symm)]
theorem blanks_id {c : UInt8} {r : Bt} (h : isBl c = false) : blanksL (c :: r) = c :: r := by unfold blanksL; rw [List.dropWhile_cons_of_neg (by simp [h])]
theorem blanks_one {c : UInt8} {r : Bt} (h : isBl c = true) : blanksL (c :: r) = blanksL r := by unfold blanksL; rw [List.dropWhile_cons_of_pos h]
theorem name_cons {nm : Bt} (h : isNameL nm = true) : ∃ c t, nm = c :: t ∧ begB c = true := by
  cases nm with
  | nil => cases h
  | cons c t => exact ⟨c, t, rfl, (name_beg h).1⟩
/-! ### Tags -/
theorem value_back {v r : Bt} (h : openB v = true) : valueL (34 :: (attrV (htmlB v) ++ 34 :: r)) = some (v, r) := by
  obtain ⟨h1, h2, _⟩ := attr_back h
  have h34 : (34 : UInt8) ∉ attrV (htmlB v) := fun hm => (h2 34 hm).2 rfl
  have h60 : (60 : UInt8) ∉ attrV (htmlB v) := fun hm => (h2 60 hm).1 rfl
  simp only [valueL]
  rw [if_pos (by simp), to_one 34 r _ h34]
  simp only
  rw [if_neg h60, h1]
  rfl
theorem tag_attr {nm v r : Bt} (hn : isNameL nm = true) (hv : openB v = true) : tagL (attrP nm v ++ r) = (tagL r).map fun x => ((([], nm), v) :: x.1, x.2) := by
  obtain ⟨c, t, hnm, hc⟩ := name_cons hn
  have hc' := beg_not hc
  have e : attrP nm v ++ r = 32 :: (nm ++ 61 :: 34 :: (attrV (htmlB v) ++ 34 :: r)) := by simp [attrP]
  rw [e, tagL_eq]
  have hb : blanksL (32 :: (nm ++ 61 :: 34 :: (attrV (htmlB v) ++ 34 :: r))) = nm ++ 61 :: 34 :: (attrV (htmlB v) ++ 34 :: r) := by
    rw [blanks_one (by decide), hnm, List.cons_append, blanks_id hc'.2.2.2.2.2.2.2]
  have hm : markL (nm ++ 61 :: 34 :: (attrV (htmlB v) ++ 34 :: r)) = _ := mark_plain (c := 61) hn (by decide) (by decide)
  have ha : attrL (nm ++ 61 :: 34 :: (attrV (htmlB v) ++ 34 :: r)) = some ((([], nm), v), r) := by
    unfold attrL
    rw [hm]
    simp only
    rw [blanks_id (by decide), word_one, if_pos rfl]
    simp only
    rw [blanks_id (by decide), value_back hv]
    rfl
  rw [hb, ha]
  have w1 : wordL [47, 62] (nm ++ 61 :: 34 :: (attrV (htmlB v) ++ 34 :: r)) = none := by rw [hnm, List.cons_append, word_cons, if_neg (fun e => hc'.2.1 e.symm)]
  have w2 : wordL [62] (nm ++ 61 :: 34 :: (attrV (htmlB v) ++ 34 :: r)) = none := by rw [hnm, List.cons_append, word_cons, if_neg (fun e => hc'.2.2.2.1 e.symm)]
  rw [w1, w2]
  simp only
  rw [if_neg (by simp only [List.length_cons]; omega)]
/-- The attribute of a tag, as it is written. -/
def mOf (a : XA) : XM := (([], a.2.1), a.2.2)
theorem tag_attrs : ∀ (l : List XA) (r : Bt), l.all rightAttrB = true → tagL (attrsP l ++ r) = (tagL r).map fun x => (l.map mOf ++ x.1, x.2)
  | [], r, _ => by simp [attrsP]
  | a :: l, r, h => by
    rw [List.all_cons, Bool.and_eq_true] at h
    have h1 := h.1
    unfold rightAttrB rightNameB at h1
    simp only [Bool.and_eq_true] at h1
    rw [show attrsP (a :: l) ++ r = attrP a.2.1 a.2.2 ++ (attrsP l ++ r) by simp [attrsP], tag_attr h1.1.2.1 h1.2, tag_attrs l r h.2, Option.map_map]
    rfl
theorem attr_space {a : XA} (h : rightAttrB a = true) : a.1 = [] ∧ a.2.1 ≠ xmlnsW := by
  unfold rightAttrB at h
  simp only [Bool.and_eq_true, beq_iff_eq, Bool.not_eq_true', beq_eq_false_iff_ne] at h
  exact ⟨h.1.1.1, h.1.1.2⟩
theorem declX_mOf {a : XA} (h : rightAttrB a = true) : declX (mOf a) = none := by
  obtain ⟨_, h2⟩ := attr_space h
  unfold declX mOf
  simp only
  rw [if_neg (by decide), if_neg (fun e => h2 e.2)]
theorem decls_mOf : ∀ (l : List XA), l.all rightAttrB = true → declsX (l.map mOf) = [] ∧ othersX (l.map mOf) = l.map mOf
  | [], _ => ⟨rfl, rfl⟩
  | a :: l, h => by
    rw [List.all_cons, Bool.and_eq_true] at h
    obtain ⟨ih1, ih2⟩ := decls_mOf l h.2
    unfold declsX othersX at *
    rw [List.map_cons]
    constructor
    · rw [List.filterMap_cons_none (by rw [declX_mOf h.1]; rfl)]
      exact ih1
    · rw [List.filter_cons_of_pos (by rw [declX_mOf h.1]; rfl), ih2]
theorem map_mOf (sc : XS) : ∀ (l : List XA), l.all rightAttrB = true → mapX (attrX sc) (l.map mOf) = some l
  | [], _ => rfl
  | a :: l, h => by
    rw [List.all_cons, Bool.and_eq_true] at h
    have h1 := (attr_space h.1).1
    obtain ⟨s, n, v⟩ := a
    simp only at h1
    subst h1
    rw [List.map_cons, mapX]
    have : attrX sc (mOf ([], n, v)) = some ([], n, v) := by unfold attrX mOf; rw [if_pos rfl]
    rw [this, map_mOf sc l h.2]
    rfl
theorem uniq_of {l : List XA} (h : rightAttrsB l = true) : uniqX l = true := by
  unfold rightAttrsB at h
  rw [Bool.and_eq_true, decide_eq_true_eq] at h
  unfold uniqX
  rw [decide_eq_true_eq]
  have h2 : ((l.map fun a => (a.1, a.2.1)).map (·.2)).Nodup := by
    rw [List.map_map]
    exact h.2
  exact List.Pairwise.of_map (·.2) (fun a b hne e => hne (by rw [e])) h2
theorem find_snoc (p q v : Bt) : ∀ l : XS, findX (l ++ [(q, v)]) p = if q = p then some v else findX l p
  | [] => by
    show (match (none : Option Bt) with | some x => some x | none => if q = p then some v else none) = _
    rfl
  | (a, b) :: l => by
    rw [List.cons_append, findX, find_snoc p q v l]
    by_cases h : q = p
    · rw [if_pos h, if_pos h]
    · rw [if_neg h, if_neg h]
      rfl
/-- The start of an element that is written. -/
theorem start_back {sc : XS} {sp nm ar : Bt} {l : List XA} (har : findX sc [] = some ar) (hl : rightAttrsB l = true) :
    ∃ sc', startX sc ([], nm) ((if sp = ar then [] else [(([], xmlnsW), sp)]) ++ l.map mOf) = some (.mk sp nm l [] [], sc') ∧ findX sc' [] = some sp := by
  have hall : l.all rightAttrB = true := by unfold rightAttrsB at hl; rw [Bool.and_eq_true] at hl; exact hl.1
  obtain ⟨d1, d2⟩ := decls_mOf l hall
  by_cases h : sp = ar
  · subst h
    rw [if_pos rfl, List.nil_append]
    refine ⟨sc ++ [], ?_, by rw [List.append_nil]; exact har⟩
    unfold startX scopeX
    rw [d1, if_neg (by simp)]
    simp only
    rw [List.append_nil, har]
    simp only
    rw [d2, map_mOf sc l hall]
    simp only
    rw [if_pos (uniq_of hl)]
  · rw [if_neg h]
    have e1 : declsX ([(([], xmlnsW), sp)] ++ l.map mOf) = [([], sp)] := by
      unfold declsX at *
      rw [List.filterMap_append, d1]
      rfl
    have e2 : othersX ([(([], xmlnsW), sp)] ++ l.map mOf) = l.map mOf := by
      unfold othersX at *
      rw [List.filter_append, d2]
      rfl
    refine ⟨sc ++ [([], sp)], ?_, by rw [find_snoc, if_pos rfl]⟩
    unfold startX scopeX
    rw [e1, if_neg (by simp)]
    simp only
    rw [find_snoc, if_pos rfl]
    simp only
    rw [e2, map_mOf _ l hall]
    simp only
    rw [if_pos (uniq_of hl)]
theorem ltN_no {l : Bt} (h : ∀ c ∈ l, c ≠ 60) : l.all ltN = true := List.all_eq_true.2 fun c hc => by
  unfold ltN
  rw [Bool.not_eq_true', beq_eq_false_iff_ne]
  exact h c hc
theorem aside_no {c : UInt8} {r : Bt} (h : c ≠ 33 ∧ c ≠ 63) : asideL (60 :: c :: r) = some none := by
  unfold asideL
  rw [word_cons, if_pos rfl, word_cons, if_neg (fun e => h.1 e.symm)]
  simp only
  rw [word_cons, if_pos rfl, word_cons, if_neg (fun e => h.2 e.symm)]
theorem aside_lt {c : UInt8} {r : Bt} (h : c ≠ 60) : asideL (c :: r) = some none := by
  unfold asideL
  rw [word_cons, if_neg (fun e => h e.symm)]
  simp only
  rw [word_cons, if_neg (fun e => h e.symm)]
/-- What an element is written as, behind its <. -/
def tailP (v : XV) (ar : Bt) : Bt := match v with
  | .mk sp nm as ks _ => nm ++ (if sp = ar then [] else attrP xmlnsW sp) ++ attrsP as ++ (if ks.isEmpty = true then [47, 62] else 62 :: printsX ks sp ++ [60, 47] ++ nm ++ [62])
theorem print_elem {v : XV} {ar : Bt} (h : v.name ≠ []) : printX v ar = 60 :: tailP v ar := by
  obtain ⟨sp, nm, as, ks, tx⟩ := v
  have h : ¬ nm = [] := h
  rw [printX, if_neg h]
  simp only [tailP, List.cons_append, List.append_assoc]
theorem print_text {v : XV} {ar : Bt} (h : v.name = []) : printX v ar = htmlB v.text := by
  obtain ⟨sp, nm, as, ks, tx⟩ := v
  have h : nm = [] := h
  rw [printX, if_pos h]
  rfl
theorem name_ne {nm : Bt} (h : rightNameB nm = true) : nm ≠ [] ∧ isNameL nm = true ∧ openB nm = true := by
  unfold rightNameB at h
  rw [Bool.and_eq_true] at h
  refine ⟨?_, h.1, h.2⟩
  rintro rfl
  exact absurd h.1 (by decide)
theorem right_elem {n : Nat} {v : XV} (h : rightX n v = true) : v.name ≠ [] ∧ isNameL v.name = true := by
  cases n with
  | zero => cases h
  | succ n =>
    rw [rightX] at h
    simp only [Bool.and_eq_true] at h
    exact ⟨(name_ne h.1.1.1.1).1, (name_ne h.1.1.1.1).2.1⟩
theorem tail_beg {v : XV} {ar : Bt} (h : isNameL v.name = true) : ∃ c t, tailP v ar = c :: t ∧ begB c = true := by
  obtain ⟨sp, nm, as, ks, tx⟩ := v
  obtain ⟨c, t, hnm, hc⟩ := name_cons (nm := nm) h
  refine ⟨c, t ++ ((if sp = ar then [] else attrP xmlnsW sp) ++ attrsP as ++ (if ks.isEmpty = true then [47, 62] else 62 :: printsX ks sp ++ [60, 47] ++ nm ++ [62])), ?_, hc⟩
  subst hnm
  unfold tailP
  simp only [List.cons_append, List.append_assoc]
theorem text_of {k : XV} (h : rightTextB k = true) : k.text ≠ [] ∧ openB k.text = true ∧ (k.name = [] → k = textX k.text) := by
  obtain ⟨sp, nm, as, ks, tx⟩ := k
  unfold rightTextB at h
  simp only [Bool.and_eq_true, Bool.not_eq_true', beq_eq_false_iff_ne, beq_iff_eq, List.isEmpty_iff] at h
  obtain ⟨⟨⟨⟨h1, h2⟩, h3⟩, h4⟩, h5⟩ := h
  refine ⟨h1, h2, fun hn => ?_⟩
  simp only [XV.space, XV.name, XV.attrs, XV.kids, XV.text] at *
  subst h3; subst h4; subst h5; subst hn
  rfl
/-- The kids of an element that is written, if each of them is read again. -/
theorem kids_back {f : XV → Bool} {d : Nat} {sc : XS} {sp r : Bt} (hf : ∀ v, f v = true → v.name ≠ [] ∧ isNameL v.name = true ∧ ∀ r, elemX d sc (tailP v sp ++ r) = .ok (v, r)) :
    ∀ (l : List XV) (p : Bool) (ks : List XV) (t : Bt), rightKidsB f p l = true → (p = false → t = []) → kidsX d sc (printsX l sp ++ 60 :: 47 :: r) ks t = .ok (allX ks t ++ l, r)
  | [], p, ks, t, _, _ => by
    rw [printsX, List.nil_append, kidsX_eq, word_cons, if_pos rfl, word_cons, if_pos rfl]
    show Except.ok (allX ks t, r) = _
    rw [List.append_nil]
  | k :: l, p, ks, t, h, hp => by
    rw [rightKidsB, Bool.and_eq_true] at h
    obtain ⟨h1, h2⟩ := h
    rw [printsX, List.append_assoc]
    by_cases hk : k.name = []
    · rw [if_pos hk, Bool.and_eq_true] at h1
      obtain ⟨t1, t2, t3⟩ := text_of h1.1
      have hpf : p = false := by simpa using h1.2
      have ht := hp hpf
      subst ht
      have hke := t3 hk
      obtain ⟨b1, b2, _⟩ := html_back t2
      have hne := html_ne t2 t1
      have hnx : ∃ y, printsX l sp ++ 60 :: 47 :: r = 60 :: y := by
        cases l with
        | nil => exact ⟨_, rfl⟩
        | cons k2 l2 =>
          rw [rightKidsB, Bool.and_eq_true] at h2
          have h3 := h2.1
          rw [hk] at h3
          by_cases hk2 : k2.name = []
          · rw [if_pos hk2] at h3
            simp at h3
          · rw [printsX, print_elem hk2]
            exact ⟨_, rfl⟩
      obtain ⟨y, hy⟩ := hnx
      have hw := while_app (p := ltN) (htmlB k.text) (printsX l sp ++ 60 :: 47 :: r) (ltN_no fun c hc => (b2 c hc).1) (.inr ⟨60, y, hy, by decide⟩)
      rw [print_text hk, kidsX_eq]
      obtain ⟨c, u, hcu⟩ := List.exists_cons_of_ne_nil hne
      have hc60 : c ≠ 60 := (b2 c (by rw [hcu]; exact List.mem_cons_self)).1
      have w1 : ∀ (w : Bt) (z : UInt8), wordL (60 :: w) (htmlB k.text ++ (printsX l sp ++ 60 :: 47 :: r)) = none := fun w _ => by rw [hcu, List.cons_append, word_cons, if_neg (fun e => hc60 e.symm)]
      have ha : asideL (htmlB k.text ++ (printsX l sp ++ 60 :: 47 :: r)) = some none := by rw [hcu, List.cons_append, aside_lt hc60]
      have htx : textL (htmlB k.text ++ (printsX l sp ++ 60 :: 47 :: r)) = some (k.text, printsX l sp ++ 60 :: 47 :: r) := by
        unfold textL
        rw [hw.1, hw.2, to_none (c := 62) (by decide) _ (fun hm => (b2 62 hm).2.1 rfl), if_neg (by rw [hy]; simp), b1]
        rfl
      rw [show cdataW = 60 :: [33, 91, 67, 68, 65, 84, 65, 91] from rfl, w1 _ 0, w1 _ 0, w1 _ 0, ha, htx]
      simp only [List.nil_append]
      rw [kids_back hf l (k.name == []) ks k.text h2 (fun e => by rw [hk] at e; cases e)]
      conv => rhs; rw [hke]
      unfold allX
      rw [if_neg t1, if_pos rfl]
      simp [List.append_assoc]
    · rw [if_neg hk] at h1
      obtain ⟨f1, f2, f3⟩ := hf k h1
      obtain ⟨c, u, hcu, hc⟩ := tail_beg (ar := sp) f2
      have hc' := beg_not hc
      rw [print_elem hk, List.cons_append, kidsX_eq]
      have w1 : wordL [60, 47] (60 :: (tailP k sp ++ (printsX l sp ++ 60 :: 47 :: r))) = none := by rw [word_cons, if_pos rfl, hcu, List.cons_append, word_cons, if_neg (fun e => hc'.2.1 e.symm)]
      have w2 : wordL cdataW (60 :: (tailP k sp ++ (printsX l sp ++ 60 :: 47 :: r))) = none := by
        show wordL (60 :: 33 :: [91, 67, 68, 65, 84, 65, 91]) _ = none
        rw [word_cons, if_pos rfl, hcu, List.cons_append, word_cons, if_neg (fun e => hc'.1 e.symm)]
      have ha : asideL (60 :: (tailP k sp ++ (printsX l sp ++ 60 :: 47 :: r))) = some none := by rw [hcu, List.cons_append, aside_no ⟨hc'.1, hc'.2.2.1⟩]
      have w3 : wordL [60] (60 :: (tailP k sp ++ (printsX l sp ++ 60 :: 47 :: r))) = some (tailP k sp ++ (printsX l sp ++ 60 :: 47 :: r)) := by rw [word_cons, if_pos rfl]; rfl
      rw [w1, w2, ha, w3]
      simp only
      rw [f3]
      simp only
      have hkn : (k.name == []) = false := beq_eq_false_iff_ne.2 hk
      rw [hkn] at h2
      rw [kids_back hf l false (allX ks t ++ [k]) [] h2 (fun _ => rfl)]
      have : allX (allX ks t ++ [k]) [] = allX ks t ++ [k] := by
        show (if ([] : Bt) = [] then allX ks t ++ [k] else _) = _
        rw [if_pos rfl]
      rw [this, List.append_assoc]
      rfl
theorem end_back {nm r : Bt} : endX ([], nm) (nm ++ 62 :: r) = some r := by
  unfold endX writtenX
  rw [if_pos rfl, word_yes]
  simp only
  rw [blanks_id (by decide), word_cons, if_pos rfl]
  rfl
theorem elem_back : ∀ (n : Nat) (v : XV) (d : Nat) (sc : XS) (ar r : Bt), rightX n v = true → d + n ≤ 24 → findX sc [] = some ar → elemX d sc (tailP v ar ++ r) = .ok (v, r)
  | 0, v, d, sc, ar, r, h, _, _ => by cases h
  | n + 1, .mk sp nm as ks tx, d, sc, ar, r, h, hd, har => by
    rw [rightX] at h
    simp only [Bool.and_eq_true, XV.name, XV.space, XV.text, XV.attrs, XV.kids, beq_iff_eq] at h
    obtain ⟨⟨⟨⟨h1, h2⟩, h3⟩, h4⟩, h5⟩ := h
    subst h3
    obtain ⟨n1, n2, n3⟩ := name_ne h1
    have hall : as.all rightAttrB = true := by unfold rightAttrsB at h4; rw [Bool.and_eq_true] at h4; exact h4.1
    obtain ⟨sc', hst, hfi⟩ := start_back (sp := sp) (nm := nm) har h4
    obtain ⟨tl, htl⟩ : ∃ tl, tl = (if ks.isEmpty = true then [47, 62] else 62 :: printsX ks sp ++ [60, 47] ++ nm ++ [62]) ++ r := ⟨_, rfl⟩
    have e : tailP (.mk sp nm as ks []) ar ++ r = nm ++ ((if sp = ar then [] else attrP xmlnsW sp) ++ (attrsP as ++ tl)) := by
      rw [htl]
      simp only [tailP, List.append_assoc]
    rw [e]
    -- what follows the name
    have hnext : ∃ c y, (if sp = ar then [] else attrP xmlnsW sp) ++ (attrsP as ++ tl) = c :: y ∧ goB c = false ∧ c ≠ 58 := by
      by_cases hs : sp = ar
      · rw [if_pos hs, List.nil_append]
        cases as with
        | nil =>
          rw [htl]
          by_cases hk : ks.isEmpty = true
          · rw [if_pos hk]; exact ⟨47, _, rfl, by decide, by decide⟩
          · rw [if_neg hk]; exact ⟨62, _, rfl, by decide, by decide⟩
        | cons a l => exact ⟨32, _, rfl, by decide, by decide⟩
      · rw [if_neg hs]
        exact ⟨32, _, rfl, by decide, by decide⟩
    obtain ⟨c, y, hy, hc1, hc2⟩ := hnext
    have htag : tagL ((if sp = ar then [] else attrP xmlnsW sp) ++ (attrsP as ++ tl)) = (tagL tl).map fun x => (((if sp = ar then [] else [(([], xmlnsW), sp)]) ++ as.map mOf) ++ x.1, x.2) := by
      by_cases hs : sp = ar
      · rw [if_pos hs, if_pos hs, List.nil_append, List.nil_append, tag_attrs as tl hall]
      · rw [if_neg hs, if_neg hs, tag_attr (by decide) h2, tag_attrs as tl hall, Option.map_map]
        rfl
    rw [elemX_eq, hy, mark_plain n2 hc1 hc2]
    simp only
    rw [← hy, htag, htl]
    by_cases hk : ks.isEmpty = true
    · rw [if_pos hk]
      have htl2 : tagL ([47, 62] ++ r) = some ([], true, r) := by
        rw [tagL_eq]
        rw [show ([47, 62] ++ r : Bt) = 47 :: 62 :: r from rfl, blanks_id (by decide), word_cons, if_pos rfl, word_cons, if_pos rfl]
        rfl
      rw [htl2]
      simp only [Option.map_some, List.append_nil]
      rw [hst]
      simp only
      rw [if_neg (by omega), if_pos trivial]
      rw [List.isEmpty_iff] at hk
      rw [hk]
    · rw [if_neg hk]
      have htl2 : tagL (62 :: printsX ks sp ++ [60, 47] ++ nm ++ [62] ++ r) = some ([], false, printsX ks sp ++ 60 :: 47 :: (nm ++ 62 :: r)) := by
        have e2 : 62 :: printsX ks sp ++ [60, 47] ++ nm ++ [62] ++ r = 62 :: (printsX ks sp ++ 60 :: 47 :: (nm ++ 62 :: r)) := by simp
        rw [e2, tagL_eq, blanks_id (by decide), word_cons, if_neg (by decide)]
        simp only
        rw [word_cons, if_pos rfl]
        rfl
      rw [htl2]
      simp only [Option.map_some, List.append_nil]
      rw [hst]
      simp only
      rw [if_neg (by omega), if_neg (by decide)]
      have hkb := kids_back (f := rightX n) (d := d + 1) (sc := sc') (sp := sp) (r := nm ++ 62 :: r) (fun v hv => ⟨(right_elem hv).1, (right_elem hv).2, fun r => elem_back n v (d + 1) sc' sp r hv (by omega) hfi⟩) ks false [] [] h5 (fun _ => rfl)
      rw [hkb]
      simp only
      rw [end_back]
      simp only [XV.withKids]
      rfl
/-! ### Documents -/
theorem print_pt : ∀ (v : XV) (n : Nat) (ar : Bt), (rightX n v = true ∨ (v.name = [] ∧ rightTextB v = true)) → PT (printX v ar)
  | .mk sp nm as ks tx, n, ar, h => by
    have hA : ∀ (m v : Bt), isNameL m = true → openB m = true → openB v = true → PT (attrP m v) := by
      intro m v _ hm hv
      have hmp : PT m := (plain_iff m).1 (by unfold openB at hm; rw [Bool.and_eq_true] at hm; exact hm.1)
      unfold attrP
      exact (((PT.append (a := [32]) (PT.ascii (by decide)) hmp).append (PT.ascii (by decide))).append (attr_back hv).2.2).append (PT.ascii (by decide))
    by_cases hn : nm = []
    · rw [printX, if_pos hn]
      rcases h with h | h
      · exact absurd hn (right_elem h).1
      · exact (html_back (text_of h.2).2.1).2.2
    · rw [printX, if_neg hn]
      rcases h with h | h
      · cases n with
        | zero => cases h
        | succ n =>
          rw [rightX] at h
          simp only [Bool.and_eq_true, XV.name, XV.space, XV.text, XV.attrs, XV.kids, beq_iff_eq] at h
          obtain ⟨⟨⟨⟨h1, h2⟩, h3⟩, h4⟩, h5⟩ := h
          obtain ⟨n1, n2, n3⟩ := name_ne h1
          have hnp : PT nm := (plain_iff nm).1 (by unfold openB at n3; rw [Bool.and_eq_true] at n3; exact n3.1)
          have hall : ∀ (l : List XA), l.all rightAttrB = true → PT (attrsP l) := by
            intro l
            induction l with
            | nil => intro _; exact PT.nil
            | cons a l ih =>
              intro hl
              rw [List.all_cons, Bool.and_eq_true] at hl
              have ha := hl.1
              unfold rightAttrB at ha
              simp only [Bool.and_eq_true] at ha
              obtain ⟨q1, q2, q3⟩ := name_ne ha.1.2
              exact (hA _ _ q2 q3 ha.2).append (ih hl.2)
          have has : PT (attrsP as) := hall as (by unfold rightAttrsB at h4; rw [Bool.and_eq_true] at h4; exact h4.1)
          have hks : PT (printsX ks sp) := prints_pt ks n sp false h5
          have h60 : PT [60] := PT.ascii (by decide)
          refine ((((h60.append hnp).append ?_).append has).append ?_)
          · split
            · exact PT.nil
            · exact hA _ _ (by decide) (by decide) h2
          · split
            · exact PT.ascii (by decide)
            · exact ((((PT.ascii (l := [62]) (by decide)).append hks).append (PT.ascii (by decide))).append hnp).append (PT.ascii (by decide))
      · exact absurd h.1 hn
where
  prints_pt : ∀ (l : List XV) (n : Nat) (sp : Bt) (p : Bool), rightKidsB (rightX n) p l = true → PT (printsX l sp)
  | [], _, _, _, _ => by rw [printsX]; exact PT.nil
  | k :: l, n, sp, p, h => by
    rw [rightKidsB, Bool.and_eq_true] at h
    rw [printsX]
    refine (print_pt k n sp ?_).append (prints_pt l n sp _ h.2)
    have h1 := h.1
    by_cases hk : k.name = []
    · rw [if_pos hk, Bool.and_eq_true] at h1
      exact .inr ⟨hk, h1.1⟩
    · rw [if_neg hk] at h1
      exact .inl h1
theorem around_id {s : Bt} (h : asideL (blanksL s) = some none) : aroundL s = some (blanksL s) := by rw [aroundL_eq, h]
theorem around_nil : aroundL [] = some [] := by decide
/-- What is written is read again. -/
theorem parse_print {v : XV} (h : rightX 24 v = true) (hl : (printX v []).length ≤ 65536) : parseX (printX v []) = (v, 0) := by
  obtain ⟨h1, h2⟩ := right_elem h
  obtain ⟨c, t, hct, hc⟩ := tail_beg (ar := []) h2
  have hc' := beg_not hc
  have hp := print_pt v 24 [] (.inl h)
  have hu : unbomL (printX v []) = printX v [] := by
    unfold unbomL
    rw [print_elem h1, if_neg (by simp [bomW, List.isPrefixOf])]
  unfold parseX
  rw [if_neg (by omega), hu, if_pos ((plain_iff _).2 hp)]
  rw [print_elem h1]
  unfold docX
  rw [around_id (by rw [blanks_id (by decide), hct, aside_no ⟨hc'.1, hc'.2.2.1⟩]), blanks_id (by decide)]
  simp only
  rw [word_cons, if_pos rfl]
  have he := elem_back 24 v 0 scope0 [] [] h (by omega) (by decide)
  rw [List.append_nil] at he
  have hw : wordL [] (tailP v []) = some (tailP v []) := by unfold wordL; rw [if_pos (by simp)]; rfl
  rw [hw]
  simp only
  rw [he]
  simp only
  rw [around_nil]
  simp
end Go.Proofs.YtklcjimmbkpbdaaGreatDoor
namespace Go.Proofs.YtklcjimmbkpbdaaGreatDoor
open Go.Lib

theorem pre_app {w s : Bt} (h : w.isPrefixOf s = true) (z : Bt) : w.isPrefixOf (s ++ z) = true := by
  rw [List.isPrefixOf_iff_prefix] at *
  exact h.trans (List.prefix_append _ _)
theorem pre_back {w s z : Bt} (hl : w.length ≤ s.length) (h : w.isPrefixOf (s ++ z) = true) : w.isPrefixOf s = true := by
  rw [List.isPrefixOf_iff_prefix] at *
  have := List.prefix_iff_eq_take.1 h
  rw [List.take_append_of_le_length hl] at this
  rw [this]
  exact List.take_prefix _ _
theorem word_app {w s r : Bt} (h : wordL w s = some r) (z : Bt) : wordL w (s ++ z) = some (r ++ z) := by
  have hl := word_len h
  unfold wordL at *
  split at h
  · rename_i hp
    injection h with h
    rw [if_pos (pre_app hp z), List.drop_append_of_le_length (by omega), h]
  · cases h
theorem to_app {w : Bt} : ∀ {s a r : Bt} (_ : toL w s = some (a, r)) (z : Bt), toL w (s ++ z) = some (a, r ++ z)
  | [], a, r, h, z => by cases h
  | c :: s, a, r, h, z => by
    have hl := to_len h
    rw [toL] at h
    rw [List.cons_append, toL]
    split at h
    · rename_i hp
      injection h with h
      injection h with h1 h2
      have hle := (List.isPrefixOf_iff_prefix.1 hp).length_le
      rw [if_pos (by rw [← List.cons_append]; exact pre_app hp z), ← List.cons_append, List.drop_append_of_le_length hle, h2, h1]
    · rename_i hp
      rw [if_neg (fun h2 => hp (pre_back (by omega) (by rw [← List.cons_append] at h2; exact h2)))]
      cases ht : toL w s with
      | none => rw [ht] at h; cases h
      | some x =>
        obtain ⟨a', r'⟩ := x
        rw [ht] at h
        injection h with h
        injection h with h1 h2
        rw [to_app ht z]
        simp only at h1 h2
        rw [Option.map_some, ← h1, ← h2]
theorem blanks_app {s : Bt} (h : blanksL s ≠ []) (z : Bt) : blanksL (s ++ z) = blanksL s ++ z := by
  induction s with
  | nil => exact absurd rfl h
  | cons c s ih =>
    rw [List.cons_append]
    cases hc : isBl c with
    | true =>
      rw [blanks_one hc] at h ⊢
      rw [blanks_one hc]
      exact ih h
    | false =>
      rw [blanks_id hc, blanks_id hc]
      rfl
theorem blanks_all {s : Bt} (h : blanksL s = []) (z : Bt) : blanksL (s ++ z) = blanksL z := by
  induction s with
  | nil => rfl
  | cons c s ih =>
    cases hc : isBl c with
    | true =>
      rw [blanks_one hc] at h
      rw [List.cons_append, blanks_one hc]
      exact ih h
    | false =>
      rw [blanks_id hc] at h
      cases h
theorem rem_app {s r : Bt} (h : remL s = some r) (z : Bt) : remL (s ++ z) = some (r ++ z) := by
  unfold remL at *
  cases ht : toL [45, 45] s with
  | none => rw [ht] at h; cases h
  | some x =>
    obtain ⟨a, b⟩ := x
    simp only [ht] at h
    rw [to_app ht z]
    exact word_app h z
theorem while_append {p : UInt8 → Bool} : ∀ (s z : Bt), (s.takeWhile p).length < s.length → (s ++ z).takeWhile p = s.takeWhile p
  | [], _, h => absurd h (Nat.lt_irrefl _)
  | c :: s, z, h => by
    cases hc : p c with
    | true =>
      rw [List.cons_append, List.takeWhile_cons_of_pos hc, List.takeWhile_cons_of_pos hc]
      rw [List.takeWhile_cons_of_pos hc] at h
      rw [while_append s z (by simpa using h)]
    | false => rw [List.cons_append, List.takeWhile_cons_of_neg (by simp [hc]), List.takeWhile_cons_of_neg (by simp [hc])]
theorem nameW_app {s : Bt} (h : nameW s < s.length) (z : Bt) : nameW (s ++ z) = nameW s := by
  cases s with
  | nil => cases h
  | cons c r =>
    rw [List.cons_append]
    simp only [nameW] at *
    split at h
    · rename_i hc
      rw [if_pos hc, while_append r z (by simp only [List.length_cons] at h; omega), if_pos hc]
    · rename_i hc
      rw [if_neg hc, if_neg hc]
theorem ins_app {s r : Bt} (h : insL s = some r) (z : Bt) : insL (s ++ z) = some (r ++ z) := by
  unfold insL at *
  split at h
  · cases h
  · rename_i h0
    cases ht : toL [63, 62] (s.drop (nameW s)) with
    | none => rw [ht] at h; cases h
    | some x =>
      obtain ⟨a, b⟩ := x
      rw [ht] at h
      injection h with h
      have hl := to_len ht
      rw [List.length_drop] at hl
      simp only [List.length_cons, List.length_nil] at hl
      have hw := nameW_le s
      rw [nameW_app (by omega), if_neg h0, List.drop_append_of_le_length hw, to_app ht z]
      simp only at h
      rw [Option.map_some, h]
theorem head_of {c : UInt8} {w s r : Bt} (h : wordL (c :: w) s = some r) : ∃ t, s = c :: t ∧ wordL w t = some r := by
  cases s with
  | nil => rw [word_nil] at h; cases h
  | cons d t =>
    rw [word_cons] at h
    split at h
    · rename_i e
      subst e
      exact ⟨t, rfl, h⟩
    · cases h
theorem aside_app {s r : Bt} (h : asideL s = some (some r)) (z : Bt) : asideL (s ++ z) = some (some (r ++ z)) := by
  unfold asideL at *
  cases h1 : wordL [60, 33, 45, 45] s with
  | some x =>
    simp only [h1] at h
    rw [word_app h1 z]
    cases h2 : remL x with
    | none => simp only [h2] at h; cases h
    | some y =>
      simp only [h2, Option.map_some] at h
      injection h with h
      injection h with h
      subst h
      show (remL (x ++ z)).map some = _
      rw [rem_app h2 z]
      rfl
  | none =>
    simp only [h1] at h
    cases h3 : wordL [60, 63] s with
    | some x =>
      simp only [h3] at h
      obtain ⟨t, ht, h4⟩ := head_of h3
      obtain ⟨t2, ht2, h5⟩ := head_of h4
      have h6 : wordL [60, 33, 45, 45] (s ++ z) = none := by rw [ht, ht2, List.cons_append, List.cons_append, word_cons, if_pos rfl, word_cons, if_neg (by decide)]
      rw [h6, word_app h3 z]
      cases h2 : insL x with
      | none => simp only [h2] at h; cases h
      | some y =>
        simp only [h2, Option.map_some] at h
        injection h with h
        injection h with h
        subst h
        show (insL (x ++ z)).map some = _
        rw [ins_app h2 z]
        rfl
    | none => simp only [h3] at h; cases h
theorem mark_beg {s r : Bt} {m : XN} (h : markL s = some (m, r)) : ∃ c t, s = c :: t ∧ begB c = true := by
  unfold markL at h
  split at h
  · cases h
  · rename_i h0
    cases s with
    | nil => exact absurd rfl h0
    | cons c t =>
      refine ⟨c, t, rfl, ?_⟩
      cases hb : begB c with
      | true => rfl
      | false =>
        simp only [nameW] at h0
        rw [hb] at h0
        exact absurd rfl h0
theorem mark_app {s r : Bt} {m : XN} (h : markL s = some (m, r)) (hr : r ≠ []) (z : Bt) : markL (s ++ z) = some (m, r ++ z) := by
  have hpos : 0 < r.length := List.length_pos_iff.2 hr
  unfold markL at *
  split at h
  · cases h
  · rename_i h0
    have hw := nameW_le s
    cases h1 : wordL [58] (s.drop (nameW s)) with
    | none =>
      simp only [h1] at h
      injection h with h
      injection h with h2 h3
      have hlt : nameW s < s.length := by
        have := congrArg List.length h3
        rw [List.length_drop] at this
        omega
      rw [nameW_app hlt, if_neg h0, List.drop_append_of_le_length hw, List.take_append_of_le_length hw]
      have h4 : wordL [58] (s.drop (nameW s) ++ z) = none := by
        rw [h3]
        cases r with
        | nil => exact absurd rfl hr
        | cons c t =>
          rw [h3, word_one] at h1
          rw [List.cons_append, word_one]
          split at h1
          · cases h1
          · rename_i hc
            rw [if_neg hc]
      rw [h4]
      simp only
      rw [h2, h3]
    | some x =>
      simp only [h1] at h
      split at h
      · cases h
      · rename_i hx0
        injection h with h
        injection h with h2 h3
        have hl := word_len h1
        rw [List.length_drop] at hl
        simp only [List.length_cons, List.length_nil] at hl
        have hwx := nameW_le x
        have hltx : nameW x < x.length := by
          have := congrArg List.length h3
          rw [List.length_drop] at this
          omega
        rw [nameW_app (by omega), if_neg h0, List.drop_append_of_le_length hw, List.take_append_of_le_length hw, word_app h1 z]
        simp only
        rw [nameW_app hltx, if_neg hx0, List.take_append_of_le_length hwx, List.drop_append_of_le_length hwx, h2, h3]
theorem value_app {s v r : Bt} (h : valueL s = some (v, r)) (z : Bt) : valueL (s ++ z) = some (v, r ++ z) := by
  cases s with
  | nil => cases h
  | cons q t =>
    rw [List.cons_append]
    simp only [valueL] at *
    split at h
    · rename_i hq
      rw [if_pos hq]
      cases ht : toL [q] t with
      | none => rw [ht] at h; cases h
      | some x =>
        obtain ⟨a, b⟩ := x
        simp only [ht] at h
        rw [to_app ht z]
        simp only
        split at h
        · cases h
        · rename_i h60
          rw [if_neg h60]
          cases hr : refsL (linesL a) with
          | none => rw [hr] at h; cases h
          | some y =>
            rw [hr] at h
            injection h with h
            injection h with h1 h2
            rw [Option.map_some, h1, h2]
    · cases h
theorem value_ne {s v r : Bt} (h : valueL s = some (v, r)) : s ≠ [] := by rintro rfl; cases h
theorem attr_app {s r : Bt} {m : XM} (h : attrL s = some (m, r)) (z : Bt) : attrL (s ++ z) = some (m, r ++ z) := by
  unfold attrL at *
  cases h1 : markL s with
  | none => rw [h1] at h; cases h
  | some x =>
    obtain ⟨m1, r1⟩ := x
    simp only [h1] at h
    cases h2 : wordL [61] (blanksL r1) with
    | none => rw [h2] at h; cases h
    | some r2 =>
      simp only [h2] at h
      have l2 := word_len h2
      have hb1 : blanksL r1 ≠ [] := by intro e; rw [e] at l2; simp at l2; omega
      have hr1 : r1 ≠ [] := by rintro rfl; exact hb1 rfl
      cases h3 : valueL (blanksL r2) with
      | none => rw [h3] at h; cases h
      | some y =>
        obtain ⟨v, r3⟩ := y
        rw [h3] at h
        injection h with h
        injection h with h4 h5
        rw [mark_app h1 hr1 z]
        simp only
        rw [blanks_app hb1, word_app h2 z]
        simp only
        rw [blanks_app (value_ne h3), value_app h3 z]
        simp only at h4 h5
        rw [Option.map_some, h4, h5]
theorem attr_beg {s r : Bt} {m : XM} (h : attrL s = some (m, r)) : ∃ c t, s = c :: t ∧ begB c = true := by
  unfold attrL at h
  cases h1 : markL s with
  | none => rw [h1] at h; cases h
  | some x =>
    obtain ⟨m1, r1⟩ := x
    exact mark_beg h1
theorem tag_app : ∀ (n : Nat) {s r : Bt} {ms : List XM} {c : Bool}, s.length ≤ n → tagL s = some (ms, c, r) → ∀ z, tagL (s ++ z) = some (ms, c, r ++ z)
  | 0, s, r, ms, c, hn, h, z => by
    have := tag_len h
    omega
  | n + 1, s, r, ms, c, hn, h, z => by
    rw [tagL_eq] at h
    have hb := blanks_le s
    cases h1 : wordL [47, 62] (blanksL s) with
    | some x =>
      simp only [h1] at h
      have l1 := word_len h1
      rw [tagL_eq, blanks_app (by intro e; rw [e] at l1; simp at l1; omega), word_app h1 z]
      injection h with h
      injection h with h2 h
      injection h with h3 h
      subst h2; subst h3; subst h
      rfl
    | none =>
      simp only [h1] at h
      cases h2 : wordL [62] (blanksL s) with
      | some x =>
        simp only [h2] at h
        obtain ⟨t, ht, h4⟩ := head_of h2
        have h1' : wordL [47, 62] (blanksL s ++ z) = none := by rw [ht, List.cons_append, word_cons, if_neg (by decide)]
        rw [tagL_eq, blanks_app (by rw [ht]; exact List.cons_ne_nil _ _), h1', word_app h2 z]
        injection h with h
        injection h with h2 h
        injection h with h3 h
        subst h2; subst h3; subst h
        rfl
      | none =>
        simp only [h2] at h
        split at h
        · cases h
        · rename_i hne
          cases h3 : attrL (blanksL s) with
          | none => rw [h3] at h; cases h
          | some x =>
            obtain ⟨m, r1⟩ := x
            simp only [h3] at h
            have l3 := attr_len h3
            obtain ⟨c0, t, ht, hc⟩ := attr_beg h3
            have hc' := beg_not hc
            have h1' : wordL [47, 62] (blanksL s ++ z) = none := by rw [ht, List.cons_append, word_cons, if_neg (fun e => hc'.2.1 e.symm)]
            have h2' : wordL [62] (blanksL s ++ z) = none := by rw [ht, List.cons_append, word_cons, if_neg (fun e => hc'.2.2.2.1 e.symm)]
            cases h4 : tagL r1 with
            | none => rw [h4] at h; cases h
            | some y =>
              obtain ⟨a, b, r2⟩ := y
              rw [h4] at h
              injection h with h
              injection h with h5 h
              injection h with h6 h
              rw [tagL_eq, blanks_app (by rw [ht]; exact List.cons_ne_nil _ _), h1', h2']
              simp only
              rw [if_neg (by rw [List.length_append, List.length_append]; omega), attr_app h3 z]
              simp only
              rw [tag_app n (by omega) h4 z]
              simp only at h5 h6 h
              rw [Option.map_some, h5, h6, h]
theorem drop_app {p : UInt8 → Bool} : ∀ (s z : Bt), s.dropWhile p ≠ [] → (s ++ z).dropWhile p = s.dropWhile p ++ z ∧ (s ++ z).takeWhile p = s.takeWhile p
  | [], _, h => absurd rfl h
  | c :: s, z, h => by
    cases hc : p c with
    | true =>
      rw [List.dropWhile_cons_of_pos hc] at h
      obtain ⟨i1, i2⟩ := drop_app s z h
      rw [List.cons_append, List.dropWhile_cons_of_pos hc, List.dropWhile_cons_of_pos hc, List.takeWhile_cons_of_pos hc, List.takeWhile_cons_of_pos hc, i1, i2]
      exact ⟨rfl, rfl⟩
    | false =>
      rw [List.cons_append, List.dropWhile_cons_of_neg (by simp [hc]), List.dropWhile_cons_of_neg (by simp [hc]), List.takeWhile_cons_of_neg (by simp [hc]), List.takeWhile_cons_of_neg (by simp [hc])]
      exact ⟨rfl, rfl⟩
theorem text_app {s x r : Bt} (h : textL s = some (x, r)) (z : Bt) : textL (s ++ z) = some (x, r ++ z) := by
  unfold textL at *
  split at h
  · cases h
  · rename_i hn
    have hd : s.dropWhile ltN ≠ [] := fun e => hn (.inr e)
    obtain ⟨i1, i2⟩ := drop_app s z hd
    rw [i1, i2, if_neg]
    · cases h1 : refsL (linesL (s.takeWhile ltN)) with
      | none => rw [h1] at h; cases h
      | some y =>
        rw [h1] at h
        injection h with h
        injection h with h2 h3
        rw [Option.map_some, h2, h3]
    · rintro (h2 | h2)
      · exact hn (.inl h2)
      · exact hd (List.append_eq_nil_iff.1 h2).1
theorem end_app {nm : XN} {s r : Bt} (h : endX nm s = some r) (z : Bt) : endX nm (s ++ z) = some (r ++ z) := by
  unfold endX at *
  cases h1 : wordL (writtenX nm) s with
  | none => rw [h1] at h; cases h
  | some x =>
    simp only [h1] at h
    rw [word_app h1 z]
    simp only
    have hl := word_len h
    rw [blanks_app (by intro e; rw [e] at hl; simp at hl; omega)]
    exact word_app h z
theorem elem_beg {d : Nat} {sc : XS} {s r : Bt} {v : XV} (h : elemX d sc s = .ok (v, r)) : ∃ c t, s = c :: t ∧ begB c = true := by
  rw [elemX_eq] at h
  cases h1 : markL s with
  | none => rw [h1] at h; cases h
  | some x =>
    obtain ⟨nm, s1⟩ := x
    exact mark_beg h1
theorem kids_app : ∀ (n : Nat), (∀ {d : Nat} {sc : XS} {s r : Bt} {v : XV}, s.length ≤ n → elemX d sc s = .ok (v, r) → ∀ z, elemX d sc (s ++ z) = .ok (v, r ++ z)) ∧
    (∀ {d : Nat} {sc : XS} {s r : Bt} {ks l : List XV} {t : Bt}, s.length ≤ n → kidsX d sc s ks t = .ok (l, r) → ∀ z, kidsX d sc (s ++ z) ks t = .ok (l, r ++ z))
  | 0 => by
    constructor
    · intro d sc s r v hn h
      have := elemX_len h
      omega
    · intro d sc s r ks l t hn h
      have := kidsX_len h
      omega
  | n + 1 => by
    obtain ⟨ihE, ihK⟩ := kids_app n
    constructor
    · intro d sc s r v hn h z
      rw [elemX_eq] at h
      cases h1 : markL s with
      | none => simp only [h1] at h; cases h
      | some x =>
        obtain ⟨nm, s1⟩ := x
        simp only [h1] at h
        have l1 := mark_len h1
        cases h2 : tagL s1 with
        | none => simp only [h2] at h; cases h
        | some y =>
          obtain ⟨ms, c, s2⟩ := y
          simp only [h2] at h
          have l2 := tag_len h2
          have hs1 : s1 ≠ [] := by rintro rfl; simp at l2
          rw [elemX_eq, mark_app h1 hs1 z]
          simp only
          rw [tag_app _ (Nat.le_refl _) h2 z]
          simp only
          cases h3 : startX sc nm ms with
          | none => simp only [h3] at h; cases h
          | some u =>
            obtain ⟨v0, sc'⟩ := u
            simp only [h3] at h
            simp only
            split at h
            · cases h
            · rename_i hd
              rw [if_neg hd]
              split at h
              · rename_i hc
                rw [if_pos hc]
                injection h with h
                injection h with h4 h5
                rw [h4, h5]
              · rename_i hc
                rw [if_neg hc]
                cases h4 : kidsX (d + 1) sc' s2 [] [] with
                | error e => simp only [h4] at h; cases h
                | ok q =>
                  obtain ⟨ks, s3⟩ := q
                  simp only [h4] at h
                  rw [ihK (by omega) h4 z]
                  simp only
                  cases h5 : endX nm s3 with
                  | none => simp only [h5] at h; cases h
                  | some s4 =>
                    simp only [h5] at h
                    rw [end_app h5 z]
                    simp only
                    injection h with h
                    injection h with h6 h7
                    rw [h6, h7]
    · intro d sc s r ks l t hn h z
      rw [kidsX_eq] at h
      cases h1 : wordL [60, 47] s with
      | some x =>
        simp only [h1] at h
        rw [kidsX_eq, word_app h1 z]
        injection h with h
        injection h with h6 h7
        subst h6; subst h7
        rfl
      | none =>
        simp only [h1] at h
        cases h2 : wordL cdataW s with
        | some x =>
          simp only [h2] at h
          have l2 := word_len h2
          obtain ⟨q, hq, h6⟩ := head_of h2
          obtain ⟨q2, hq2, h7⟩ := head_of h6
          have w1 : wordL [60, 47] (s ++ z) = none := by rw [hq, hq2, List.cons_append, List.cons_append, word_cons, if_pos rfl, word_cons, if_neg (by decide)]
          cases h3 : toL cdendW x with
          | none => simp only [h3] at h; cases h
          | some y =>
            obtain ⟨a, r'⟩ := y
            simp only [h3] at h
            have l3 := to_len h3
            have lc : cdataW.length = 9 := rfl
            rw [kidsX_eq, w1, word_app h2 z]
            simp only
            rw [to_app h3 z]
            exact ihK (by omega) h z
        | none =>
          simp only [h2] at h
          cases h3 : asideL s with
          | none => simp only [h3] at h; cases h
          | some o =>
            cases o with
            | some x =>
              simp only [h3] at h
              have l3 := aside_len h3
              have hb : ∃ q, s = 60 :: 33 :: 45 :: q ∨ s = 60 :: 63 :: q := by
                unfold asideL at h3
                cases h4 : wordL [60, 33, 45, 45] s with
                | some y =>
                  obtain ⟨q, hq, h6⟩ := head_of h4
                  obtain ⟨q2, hq2, h7⟩ := head_of h6
                  obtain ⟨q3, hq3, h8⟩ := head_of h7
                  exact ⟨q3, .inl (by rw [hq, hq2, hq3])⟩
                | none =>
                  simp only [h4] at h3
                  cases h5 : wordL [60, 63] s with
                  | some y =>
                    obtain ⟨q, hq, h6⟩ := head_of h5
                    obtain ⟨q2, hq2, h7⟩ := head_of h6
                    exact ⟨q2, .inr (by rw [hq, hq2])⟩
                  | none => simp only [h5] at h3; cases h3
              have w1 : wordL [60, 47] (s ++ z) = none := by
                obtain ⟨q, rfl | rfl⟩ := hb
                · rw [List.cons_append, List.cons_append, word_cons, if_pos rfl, word_cons, if_neg (by decide)]
                · rw [List.cons_append, List.cons_append, word_cons, if_pos rfl, word_cons, if_neg (by decide)]
              have w2 : wordL cdataW (s ++ z) = none := by
                show wordL (60 :: 33 :: 91 :: [67, 68, 65, 84, 65, 91]) _ = none
                obtain ⟨q, rfl | rfl⟩ := hb
                · rw [List.cons_append, List.cons_append, List.cons_append, word_cons, if_pos rfl, word_cons, if_pos rfl, word_cons, if_neg (by decide)]
                · rw [List.cons_append, List.cons_append, word_cons, if_pos rfl, word_cons, if_neg (by decide)]
              rw [kidsX_eq, w1, w2, aside_app h3 z]
              exact ihK (by omega) h z
            | none =>
              simp only [h3] at h
              cases h4 : wordL [60] s with
              | some x =>
                simp only [h4] at h
                have l4 := word_len h4
                simp only [List.length_cons, List.length_nil] at l4
                cases h5 : elemX d sc x with
                | error e => simp only [h5] at h; cases h
                | ok y =>
                  obtain ⟨v, r'⟩ := y
                  simp only [h5] at h
                  have l5 := elemX_len h5
                  obtain ⟨q, hq, h6⟩ := head_of h4
                  have hqx : q = x := by
                    unfold wordL at h6
                    simpa using h6
                  subst hqx
                  obtain ⟨c, u, hcu, hc⟩ := elem_beg h5
                  have hc' := beg_not hc
                  have w1 : wordL [60, 47] (s ++ z) = none := by rw [hq, hcu, List.cons_append, List.cons_append, word_cons, if_pos rfl, word_cons, if_neg (fun e => hc'.2.1 e.symm)]
                  have w2 : wordL cdataW (s ++ z) = none := by
                    show wordL (60 :: 33 :: [91, 67, 68, 65, 84, 65, 91]) _ = none
                    rw [hq, hcu, List.cons_append, List.cons_append, word_cons, if_pos rfl, word_cons, if_neg (fun e => hc'.1 e.symm)]
                  have w3 : asideL (s ++ z) = some none := by rw [hq, hcu, List.cons_append, List.cons_append, aside_no ⟨hc'.1, hc'.2.2.1⟩]
                  rw [kidsX_eq, w1, w2, w3, word_app h4 z]
                  simp only
                  rw [ihE (by omega) h5 z]
                  exact ihK (by omega) h z
              | none =>
                simp only [h4] at h
                cases h5 : textL s with
                | none => simp only [h5] at h; cases h
                | some y =>
                  obtain ⟨x, r'⟩ := y
                  simp only [h5] at h
                  have l5 := text_len h4 h5
                  cases s with
                  | nil => simp at l5
                  | cons c u =>
                    have hc : c ≠ 60 := by
                      intro e
                      subst e
                      rw [word_one, if_pos rfl] at h4
                      cases h4
                    have w : ∀ w : Bt, wordL (60 :: w) (c :: u ++ z) = none := fun w => by rw [List.cons_append, word_cons, if_neg (fun e => hc e.symm)]
                    have w3 : asideL (c :: u ++ z) = some none := by rw [List.cons_append, aside_lt hc]
                    rw [kidsX_eq, w, show cdataW = 60 :: [33, 91, 67, 68, 65, 84, 65, 91] from rfl, w, w3, w, text_app h5 z]
                    exact ihK (by omega) h z
theorem elem_app {d : Nat} {sc : XS} {s r : Bt} {v : XV} (h : elemX d sc s = .ok (v, r)) (z : Bt) : elemX d sc (s ++ z) = .ok (v, r ++ z) := (kids_app s.length).1 (Nat.le_refl _) h z
/-! ### Around a document -/
theorem around_app : ∀ (n : Nat) {s s1 c : Bt} {b : UInt8}, s.length ≤ n → aroundL s = some s1 → s1 = 60 :: b :: c → begB b = true → ∀ z, aroundL (s ++ z) = some (s1 ++ z)
  | n, s, s1, c, b, hn, h, h1, hb, z => by
    have hbl := blanks_le s
    rw [aroundL_eq] at h
    cases ha : asideL (blanksL s) with
    | none => simp only [ha] at h; cases h
    | some o =>
      cases o with
      | none =>
        simp only [ha] at h
        injection h with h
        have hb' := beg_not hb
        have hne : blanksL s ≠ [] := by rw [h, h1]; exact List.cons_ne_nil _ _
        have ha2 : asideL (blanksL (s ++ z)) = some none := by rw [blanks_app hne, h, h1, List.cons_append, List.cons_append, aside_no ⟨hb'.1, hb'.2.2.1⟩]
        rw [around_id ha2, blanks_app hne, h]
      | some r =>
        simp only [ha] at h
        have hl := aside_len ha
        have hne : blanksL s ≠ [] := by intro e; rw [e] at hl; simp at hl
        have ha2 : asideL (blanksL (s ++ z)) = some (some (r ++ z)) := by rw [blanks_app hne, aside_app ha z]
        rw [aroundL_eq, ha2]
        cases n with
        | zero => omega
        | succ n => exact around_app n (by omega) h h1 hb z
theorem around_tail : ∀ (n : Nat) {s : Bt}, s.length ≤ n → aroundL s = some [] → ∀ z, aroundL (s ++ z) = aroundL z
  | n, s, hn, h, z => by
    have hbl := blanks_le s
    rw [aroundL_eq] at h
    cases ha : asideL (blanksL s) with
    | none => simp only [ha] at h; cases h
    | some o =>
      cases o with
      | none =>
        simp only [ha] at h
        injection h with h
        rw [aroundL_eq, aroundL_eq z, blanks_all h]
      | some r =>
        simp only [ha] at h
        have hl := aside_len ha
        have hne : blanksL s ≠ [] := by intro e; rw [e] at hl; simp at hl
        have ha2 : asideL (blanksL (s ++ z)) = some (some (r ++ z)) := by rw [blanks_app hne, aside_app ha z]
        rw [aroundL_eq, ha2]
        cases n with
        | zero => omega
        | succ n => exact around_tail n (by omega) h z
/-- Bytes that may stand around a document. -/
def Skips (a : Bt) : Prop := ∀ s, aroundL (a ++ s) = aroundL s
theorem Skips.nil : Skips [] := fun _ => rfl
theorem Skips.append {a b : Bt} (ha : Skips a) (hb : Skips b) : Skips (a ++ b) := fun s => by rw [List.append_assoc, ha, hb]
theorem skips_of {a : Bt} (h : ∀ s, asideL (blanksL (a ++ s)) = some (some s)) : Skips a := fun s => by rw [aroundL_eq, h]
theorem skips_bl {c : UInt8} (h : isBl c = true) : Skips [c] := fun s => by
  rw [aroundL_eq, aroundL_eq s]
  rw [show ([c] ++ s : Bt) = c :: s from rfl, blanks_one h]
theorem Skips.around {a : Bt} (h : Skips a) : aroundL a = some [] := by
  have := h []
  rw [List.append_nil] at this
  rw [this, around_nil]
/-- The pieces of the law. -/
def pieceR (i : Nat) : Bt := match i % 5 with
  | 0 => [32]
  | 1 => [60, 33, 45, 45, 32, 114, 32, 45, 45, 62]
  | 2 => [60, 63, 105, 32, 100, 63, 62]
  | 3 => [10]
  | _ => [60, 33, 45, 45, 45, 45, 62]
theorem piece_cases (i : Nat) : pieceR i = [32] ∨ pieceR i = [60, 33, 45, 45, 32, 114, 32, 45, 45, 62] ∨ pieceR i = [60, 63, 105, 32, 100, 63, 62] ∨ pieceR i = [10] ∨ pieceR i = [60, 33, 45, 45, 45, 45, 62] := by
  unfold pieceR
  split
  · exact .inl rfl
  · exact .inr (.inl rfl)
  · exact .inr (.inr (.inl rfl))
  · exact .inr (.inr (.inr (.inl rfl)))
  · exact .inr (.inr (.inr (.inr rfl)))
theorem to_here {w r : Bt} (hw : w ≠ []) : toL w (w ++ r) = some ([], r) := by
  cases w with
  | nil => exact absurd rfl hw
  | cons c w =>
    rw [List.cons_append, toL, ← List.cons_append, if_pos (by rw [List.isPrefixOf_iff_prefix]; exact List.prefix_append _ _), List.drop_left]
theorem to_skip {w s a r : Bt} {c : UInt8} (h : w.isPrefixOf (c :: s) = false) (ht : toL w s = some (a, r)) : toL w (c :: s) = some (c :: a, r) := by
  rw [toL, if_neg (by rw [h]; exact Bool.false_ne_true), ht]
  rfl
theorem piece_skips (i : Nat) : Skips (pieceR i) := by
  rcases piece_cases i with h | h | h | h | h
  · rw [h]; exact skips_bl (by decide)
  · rw [h]
    refine skips_of fun s => ?_
    have h1 : toL [45, 45] (32 :: 114 :: 32 :: 45 :: 45 :: 62 :: s) = some ([32, 114, 32], 62 :: s) := to_skip rfl (to_skip rfl (to_skip rfl (to_here (w := [45, 45]) (r := 62 :: s) (List.cons_ne_nil _ _))))
    show asideL (blanksL (60 :: 33 :: 45 :: 45 :: 32 :: 114 :: 32 :: 45 :: 45 :: 62 :: s)) = _
    rw [blanks_id (by decide)]
    unfold asideL
    rw [show wordL [60, 33, 45, 45] (60 :: 33 :: 45 :: 45 :: 32 :: 114 :: 32 :: 45 :: 45 :: 62 :: s) = some (32 :: 114 :: 32 :: 45 :: 45 :: 62 :: s) from word_yes [60, 33, 45, 45] _]
    simp only
    unfold remL
    rw [h1]
    simp only
    rw [show wordL [62] (62 :: s) = some s from word_yes [62] _]
    rfl
  · rw [h]
    refine skips_of fun s => ?_
    show asideL (blanksL (60 :: 63 :: 105 :: 32 :: 100 :: 63 :: 62 :: s)) = _
    rw [blanks_id (by decide)]
    unfold asideL
    rw [word_cons, if_pos rfl, word_cons, if_neg (by decide)]
    simp only
    rw [show wordL [60, 63] (60 :: 63 :: 105 :: 32 :: 100 :: 63 :: 62 :: s) = some (105 :: 32 :: 100 :: 63 :: 62 :: s) from word_yes [60, 63] _]
    simp only
    have hw : nameW (105 :: 32 :: 100 :: 63 :: 62 :: s) = 1 := by
      simp only [nameW]
      rw [if_pos (by decide), List.takeWhile_cons_of_neg (by decide)]
      rfl
    have h1 : toL [63, 62] (32 :: 100 :: 63 :: 62 :: s) = some ([32, 100], s) := to_skip rfl (to_skip rfl (to_here (w := [63, 62]) (r := s) (List.cons_ne_nil _ _)))
    unfold insL
    rw [hw, if_neg (by decide)]
    show ((toL [63, 62] (32 :: 100 :: 63 :: 62 :: s)).map (·.2)).map some = _
    rw [h1]
    rfl
  · rw [h]; exact skips_bl (by decide)
  · rw [h]
    refine skips_of fun s => ?_
    have h1 : toL [45, 45] (45 :: 45 :: 62 :: s) = some ([], 62 :: s) := to_here (w := [45, 45]) (r := 62 :: s) (List.cons_ne_nil _ _)
    show asideL (blanksL (60 :: 33 :: 45 :: 45 :: 45 :: 45 :: 62 :: s)) = _
    rw [blanks_id (by decide)]
    unfold asideL
    rw [show wordL [60, 33, 45, 45] (60 :: 33 :: 45 :: 45 :: 45 :: 45 :: 62 :: s) = some (45 :: 45 :: 62 :: s) from word_yes [60, 33, 45, 45] _]
    simp only
    unfold remL
    rw [h1]
    simp only
    rw [show wordL [62] (62 :: s) = some s from word_yes [62] _]
    rfl
theorem piece_pt (i : Nat) : PT (pieceR i) := by
  rcases piece_cases i with h | h | h | h | h <;> rw [h] <;> exact PT.ascii (by decide)
theorem piece_len (i : Nat) : (pieceR i).length ≤ 10 ∧ 1 ≤ (pieceR i).length := by
  rcases piece_cases i with h | h | h | h | h <;> rw [h] <;> decide
/-- What stands ahead and behind after some pieces. -/
def aheadR : Nat → Bt
  | 0 => []
  | i + 1 => aheadR i ++ pieceR i
def behindR : Nat → Bt
  | 0 => []
  | i + 1 => pieceR i ++ behindR i
theorem ahead_skips : ∀ n, Skips (aheadR n) ∧ Skips (behindR n) ∧ PT (aheadR n) ∧ PT (behindR n) ∧ (aheadR n).length ≤ 10 * n ∧ (behindR n).length ≤ 10 * n
  | 0 => ⟨Skips.nil, Skips.nil, PT.nil, PT.nil, Nat.le_refl _, Nat.le_refl _⟩
  | n + 1 => by
    obtain ⟨a1, a2, a3, a4, a5, a6⟩ := ahead_skips n
    have hp := piece_len n
    refine ⟨a1.append (piece_skips n), (piece_skips n).append a2, a3.append (piece_pt n), (piece_pt n).append a4, ?_, ?_⟩
    · rw [aheadR, List.length_append]; omega
    · rw [behindR, List.length_append]; omega
theorem ahead_beg : ∀ n, aheadR (n + 1) ≠ [] ∧ ∃ c t, aheadR (n + 1) = c :: t ∧ c.toNat < 128
  | 0 => ⟨by decide, 32, [], rfl, by decide⟩
  | n + 1 => by
    obtain ⟨_, c, t, h, hc⟩ := ahead_beg n
    rw [aheadR, h]
    exact ⟨List.cons_ne_nil _ _, c, t ++ pieceR (n + 1), rfl, hc⟩
/-- A document that is read, with something behind. -/
theorem doc_app {s a z : Bt} {v : XV} (h : docX s = (v, 0)) (ha : Skips a) : docX (a ++ s ++ z) = (if aroundL z = some [] then (v, 0) else (zeroX, 70)) ∧ 3 ≤ s.length := by
  unfold docX at h
  cases h1 : aroundL s with
  | none => simp only [h1] at h; injection h with _ h; cases h
  | some s1 =>
    simp only [h1] at h
    cases h2 : wordL [60] s1 with
    | none => simp only [h2] at h; injection h with _ h; cases h
    | some s2 =>
      simp only [h2] at h
      cases h3 : elemX 0 scope0 s2 with
      | error e =>
        simp only [h3] at h
        injection h with _ h
        subst h
        exfalso
        rw [elemX_eq] at h3
        have key : ∀ n, (∀ d sc s, elemN n d sc s ≠ .error 0) ∧ (∀ d sc s ks t, kidsN n d sc s ks t ≠ .error 0) := by
          intro n
          induction n with
          | zero => exact ⟨fun d sc s h => (by rw [elemN] at h; cases h), fun d sc s ks t h => (by rw [kidsN] at h; cases h)⟩
          | succ n ih =>
            obtain ⟨i1, i2⟩ := ih
            constructor
            · intro d sc s h
              rw [elemN] at h
              repeat' split at h
              all_goals first | (cases h; done) | skip
              all_goals (rename_i h4; injection h with h; subst h; exact i2 _ _ _ _ _ h4)
            · intro d sc s ks t h
              rw [kidsN] at h
              repeat' split at h
              all_goals first | (cases h; done) | (exact i2 _ _ _ _ _ h) | skip
              all_goals (rename_i h4; injection h with h; subst h; exact i1 _ _ _ h4)
        rw [← elemX_eq] at h3
        exact (key _).1 _ _ _ h3
      | ok x =>
        obtain ⟨v', s3⟩ := x
        simp only [h3] at h
        cases h4 : aroundL s3 with
        | none => simp only [h4] at h; injection h with _ h; cases h
        | some r =>
          simp only [h4] at h
          split at h
          · rename_i hr
            subst hr
            injection h with h _
            subst h
            obtain ⟨q, hq, h6⟩ := head_of h2
            have hqx : q = s2 := by
              unfold wordL at h6
              simpa using h6
            subst hqx
            obtain ⟨c, u, hcu, hc⟩ := elem_beg h3
            have hA := around_app _ (Nat.le_refl _) h1 (by rw [hq, hcu]) hc z
            have hW : wordL [60] (s1 ++ z) = some (q ++ z) := word_app h2 z
            refine ⟨?_, ?_⟩
            · unfold docX
              rw [List.append_assoc, ha, hA]
              simp only
              rw [hW]
              simp only
              rw [elem_app h3 z]
              simp only
              rw [around_tail _ (Nat.le_refl _) h4 z]
              cases hz : aroundL z with
              | none => simp only []; rw [if_neg (by simp)]
              | some y =>
                simp only []
                by_cases hy : y = []
                · rw [if_pos hy, if_pos (by rw [hy])]
                · rw [if_neg hy, if_neg (fun e => hy (Option.some.inj e))]
            · have hle : ∀ (n : Nat) {s s1 : Bt}, s.length ≤ n → aroundL s = some s1 → s1.length ≤ s.length := by
                intro n
                induction n with
                | zero =>
                  intro s s1 hn h
                  have : s = [] := List.eq_nil_of_length_eq_zero (by omega)
                  subst this
                  rw [around_nil] at h
                  injection h with h
                  subst h
                  exact Nat.le_refl _
                | succ n ih =>
                  intro s s1 hn h
                  have hbl := blanks_le s
                  rw [aroundL_eq] at h
                  cases ha : asideL (blanksL s) with
                  | none => simp only [ha] at h; cases h
                  | some o =>
                    cases o with
                    | none =>
                      simp only [ha] at h
                      injection h with h
                      rw [← h]
                      exact hbl
                    | some r =>
                      simp only [ha] at h
                      have hl := aside_len ha
                      have := ih (by omega) h
                      omega
              have l1 := hle _ (Nat.le_refl _) h1
              rw [hq, List.length_cons] at l1
              have l3 : 2 ≤ q.length := by
                rw [elemX_eq] at h3
                cases h5 : markL q with
                | none => simp only [h5] at h3; cases h3
                | some y =>
                  obtain ⟨nm, p1⟩ := y
                  simp only [h5] at h3
                  have l1 := mark_len h5
                  cases h7 : tagL p1 with
                  | none => simp only [h7] at h3; cases h3
                  | some y =>
                    obtain ⟨ms, c, p2⟩ := y
                    have l2 := tag_len h7
                    omega
              omega
          · injection h with _ h; cases h
end Go.Proofs.YtklcjimmbkpbdaaGreatDoor
namespace Go.Proofs.YtklcjimmbkpbdaaGreatDoor
open Go.Lib

theorem parse_ok {b : Bt} {v : XV} (h : parseX b = (v, 0)) : b.length ≤ 65536 ∧ PT (unbomL b) ∧ docX (unbomL b) = (v, 0) := by
  unfold parseX at h
  split at h
  · injection h with _ h; cases h
  · split at h
    · rename_i h1 h2
      exact ⟨by omega, (plain_iff _).1 h2, h⟩
    · injection h with _ h; cases h
theorem parse_of {b : Bt} {p : XV × Int} (hl : b.length ≤ 65536) (hp : PT (unbomL b)) (h : docX (unbomL b) = p) : parseX b = p := by
  unfold parseX
  rw [if_neg (by omega), if_pos ((plain_iff _).2 hp), h]
theorem unbom_app {b : Bt} (h : 3 ≤ b.length) (z : Bt) : unbomL (b ++ z) = unbomL b ++ z := by
  unfold unbomL
  by_cases hp : bomW.isPrefixOf b = true
  · rw [if_pos hp, if_pos (pre_app hp z), List.drop_append_of_le_length h]
  · rw [if_neg hp, if_neg (fun h2 => hp (pre_back h h2))]
theorem unbom_len (b : Bt) : (unbomL b).length ≤ b.length := by
  unfold unbomL
  split
  · rw [List.length_drop]; omega
  · exact Nat.le_refl _
def zW : Bt := [60, 122, 47, 62]
theorem z_around : aroundL zW = some zW := by decide
/-- The law on remarks. -/
theorem parse_remarks {b : Bt} {v : XV} (h : parseX b = (v, 0)) (hb : b.length ≤ 3000) (n : Nat) (hn : n ≤ 8) :
    parseX ((if bomW.isPrefixOf b = true then [] else aheadR n) ++ b ++ behindR n) = (v, 0) ∧ parseX (b ++ zW) = (zeroX, 70) := by
  obtain ⟨_, h1, h2⟩ := parse_ok h
  obtain ⟨a1, a2, a3, a4, a5, a6⟩ := ahead_skips n
  obtain ⟨d1, d2⟩ := doc_app (z := behindR n) h2 Skips.nil
  have hl := unbom_len b
  rw [if_pos a2.around, List.nil_append] at d1
  constructor
  · by_cases hp : bomW.isPrefixOf b = true
    · rw [if_pos hp, List.nil_append]
      refine parse_of (by rw [List.length_append]; omega) ?_ ?_
      · rw [unbom_app (by omega)]; exact h1.append a4
      · rw [unbom_app (by omega)]; exact d1
    · rw [if_neg hp]
      have hu : unbomL b = b := by unfold unbomL; rw [if_neg hp]
      rw [hu] at h1 h2 d1
      cases n with
      | zero =>
        refine parse_of (by simp only [List.length_append]; omega) ?_ ?_
        · rw [show aheadR 0 = [] from rfl, List.nil_append, unbom_app (by rw [hu] at d2; omega), hu]; exact h1.append a4
        · rw [show aheadR 0 = [] from rfl, List.nil_append, unbom_app (by rw [hu] at d2; omega), hu]; exact d1
      | succ n =>
        obtain ⟨_, c, t, hc, hc128⟩ := ahead_beg n
        have hu2 : unbomL (aheadR (n + 1) ++ b ++ behindR (n + 1)) = aheadR (n + 1) ++ b ++ behindR (n + 1) := by
          unfold unbomL
          rw [if_neg]
          rw [hc, List.cons_append, List.cons_append]
          intro hpp
          rw [List.isPrefixOf_iff_prefix] at hpp
          have := (List.cons_prefix_cons.1 hpp).1
          subst this
          exact absurd hc128 (by decide)
        have d3 := (doc_app (z := behindR (n + 1)) h2 a1).1
        rw [if_pos a2.around] at d3
        refine parse_of (by simp only [List.length_append]; omega) ?_ ?_
        · rw [hu2]; exact (a3.append h1).append a4
        · rw [hu2]; exact d3
  · have d4 := (doc_app (z := zW) h2 Skips.nil).1
    rw [z_around, if_neg (by decide), List.nil_append] at d4
    refine parse_of (by rw [List.length_append, show zW.length = 4 from rfl]; omega) ?_ ?_
    · rw [unbom_app (by omega)]; exact h1.append (PT.ascii (by decide))
    · rw [unbom_app (by omega)]; exact d4
/-! ### Depth -/
def openP : Bt := [60, 112, 58, 97, 32, 120, 109, 108, 110, 115, 58, 112, 61, 39, 117, 39, 62]
def shutP : Bt := [60, 47, 112, 58, 97, 62]
def openQ : Bt := [60, 98, 62]
def shutQ : Bt := [60, 47, 98, 62]
/-- A text within some elements. -/
def wrapX (s : Bt) : Nat → Bt
  | 0 => s
  | i + 1 => if i % 3 = 0 then openP ++ wrapX s i ++ shutP else openQ ++ wrapX s i ++ shutQ
theorem wrap_len (s : Bt) : ∀ n, (wrapX s n).length ≤ s.length + 23 * n
  | 0 => Nat.le_refl _
  | n + 1 => by
    have := wrap_len s n
    rw [wrapX]
    split <;> simp only [List.length_append, openP, shutP, openQ, shutQ, List.length_cons, List.length_nil] <;> omega
theorem wrap_pt {s : Bt} (h : PT s) : ∀ n, PT (wrapX s n)
  | 0 => h
  | n + 1 => by
    rw [wrapX]
    split
    · exact ((PT.ascii (by decide)).append (wrap_pt h n)).append (PT.ascii (by decide))
    · exact ((PT.ascii (by decide)).append (wrap_pt h n)).append (PT.ascii (by decide))
def nextX : XS → XS := fun sc => sc ++ [([112], [117])]
theorem mark_P (r : Bt) : markL (112 :: 58 :: 97 :: 32 :: r) = some (([112], [97]), 32 :: r) := by
  have h1 : nameW (112 :: 58 :: 97 :: 32 :: r) = 1 := by
    simp only [nameW]
    rw [if_pos (by decide), List.takeWhile_cons_of_neg (by decide)]
    rfl
  have h2 : nameW (97 :: 32 :: r) = 1 := by
    simp only [nameW]
    rw [if_pos (by decide), List.takeWhile_cons_of_neg (by decide)]
    rfl
  unfold markL
  rw [h1, if_neg (by decide)]
  rw [show (112 :: 58 :: 97 :: 32 :: r).drop 1 = 58 :: 97 :: 32 :: r from rfl, show wordL [58] (58 :: 97 :: 32 :: r) = some (97 :: 32 :: r) from word_yes [58] _]
  simp only
  rw [h2, if_neg (by decide)]
  rfl
theorem tag_P (r : Bt) : tagL (32 :: 120 :: 109 :: 108 :: 110 :: 115 :: 58 :: 112 :: 61 :: 39 :: 117 :: 39 :: 62 :: r) = some ([((xmlnsW, [112]), [117])], false, r) := by
  have h1 : nameW (120 :: 109 :: 108 :: 110 :: 115 :: 58 :: 112 :: 61 :: 39 :: 117 :: 39 :: 62 :: r) = 5 := by
    simp only [nameW]
    rw [if_pos (by decide)]
    rw [List.takeWhile_cons_of_pos (by decide), List.takeWhile_cons_of_pos (by decide), List.takeWhile_cons_of_pos (by decide), List.takeWhile_cons_of_pos (by decide), List.takeWhile_cons_of_neg (by decide)]
    rfl
  have h2 : nameW (112 :: 61 :: 39 :: 117 :: 39 :: 62 :: r) = 1 := by
    simp only [nameW]
    rw [if_pos (by decide), List.takeWhile_cons_of_neg (by decide)]
    rfl
  have hm : markL (120 :: 109 :: 108 :: 110 :: 115 :: 58 :: 112 :: 61 :: 39 :: 117 :: 39 :: 62 :: r) = some ((xmlnsW, [112]), 61 :: 39 :: 117 :: 39 :: 62 :: r) := by
    unfold markL
    rw [h1, if_neg (by decide)]
    rw [show (120 :: 109 :: 108 :: 110 :: 115 :: 58 :: 112 :: 61 :: 39 :: 117 :: 39 :: 62 :: r).drop 5 = 58 :: 112 :: 61 :: 39 :: 117 :: 39 :: 62 :: r from rfl, show wordL [58] (58 :: 112 :: 61 :: 39 :: 117 :: 39 :: 62 :: r) = some (112 :: 61 :: 39 :: 117 :: 39 :: 62 :: r) from word_yes [58] _]
    simp only
    rw [h2, if_neg (by decide)]
    rfl
  have hv : valueL (39 :: 117 :: 39 :: 62 :: r) = some ([117], 62 :: r) := by
    simp only [valueL]
    rw [if_pos (by simp), show toL [39] (117 :: 39 :: 62 :: r) = some ([117], 62 :: r) from to_one 39 (62 :: r) [117] (by decide)]
    simp only
    rw [if_neg (by decide), show refsL (linesL [117]) = some [117] by decide]
    rfl
  have ha : attrL (120 :: 109 :: 108 :: 110 :: 115 :: 58 :: 112 :: 61 :: 39 :: 117 :: 39 :: 62 :: r) = some (((xmlnsW, [112]), [117]), 62 :: r) := by
    unfold attrL
    rw [hm]
    simp only
    rw [blanks_id (by decide), show wordL [61] (61 :: 39 :: 117 :: 39 :: 62 :: r) = some (39 :: 117 :: 39 :: 62 :: r) from word_yes [61] _]
    simp only
    rw [blanks_id (by decide), hv]
    rfl
  rw [tagL_eq, blanks_one (by decide), blanks_id (by decide), word_cons, if_neg (by decide)]
  simp only
  rw [word_cons, if_neg (by decide)]
  simp only
  rw [if_neg (by simp only [List.length_cons]; omega), ha]
  simp only
  rw [tagL_eq, blanks_id (by decide), word_cons, if_neg (by decide)]
  simp only
  rw [show wordL [62] (62 :: r) = some r from word_yes [62] _]
  rfl
theorem mark_Q (r : Bt) : markL (98 :: 62 :: r) = some (([], [98]), 62 :: r) := mark_plain (nm := [98]) (c := 62) (by decide) (by decide) (by decide)
theorem tag_Q (r : Bt) : tagL (62 :: r) = some ([], false, r) := by
  rw [tagL_eq, blanks_id (by decide), word_cons, if_neg (by decide)]
  simp only
  rw [show wordL [62] (62 :: r) = some r from word_yes [62] _]
theorem start_P (sc : XS) : startX sc ([112], [97]) [((xmlnsW, [112]), [117])] = some (.mk [117] [97] [] [] [], sc ++ [([112], [117])]) := by
  unfold startX scopeX
  have e1 : declsX [((xmlnsW, [112]), [117])] = [([112], [117])] := by decide
  have e2 : othersX [((xmlnsW, [112]), [117])] = [] := by decide
  rw [e1, e2, if_neg (by decide)]
  simp only
  rw [find_snoc, if_pos rfl]
  rfl
theorem start_Q {sc : XS} {ar : Bt} (h : findX sc [] = some ar) : startX sc ([], [98]) [] = some (.mk ar [98] [] [] [], sc) := by
  unfold startX scopeX
  have e1 : declsX [] = [] := rfl
  have e2 : othersX [] = [] := rfl
  rw [e1, e2, if_neg (by decide)]
  simp only
  rw [List.append_nil, h]
  rfl
theorem kids_err {d : Nat} {sc : XS} {c : UInt8} {t : Bt} {e : Int} (hc : begB c = true) (h : elemX d sc (c :: t) = .error e) (ks : List XV) (x : Bt) : kidsX d sc (60 :: c :: t) ks x = .error e := by
  have hc' := beg_not hc
  have w1 : wordL [60, 47] (60 :: c :: t) = none := by rw [word_cons, if_pos rfl, word_cons, if_neg (fun e => hc'.2.1 e.symm)]
  have w2 : wordL cdataW (60 :: c :: t) = none := by
    show wordL (60 :: 33 :: [91, 67, 68, 65, 84, 65, 91]) _ = none
    rw [word_cons, if_pos rfl, word_cons, if_neg (fun e => hc'.1 e.symm)]
  rw [kidsX_eq, w1, w2, aside_no ⟨hc'.1, hc'.2.2.1⟩, show wordL [60] (60 :: c :: t) = some (c :: t) from word_yes [60] _]
  simp only
  rw [h]
theorem wrap_beg (s : Bt) (i : Nat) : ∃ c t, wrapX s (i + 1) = 60 :: c :: t ∧ begB c = true := by
  rw [wrapX]
  split
  · exact ⟨112, _, rfl, by decide⟩
  · exact ⟨98, _, rfl, by decide⟩
/-- Too many elements within one another. -/
theorem wrap_deep (s : Bt) : ∀ (i d : Nat) (sc : XS) (ar r : Bt), 24 ≤ d + i → d ≤ 24 → findX sc [] = some ar → elemX d sc ((wrapX s (i + 1)).drop 1 ++ r) = .error 71
  | i, d, sc, ar, r, h, hd, har => by
    rw [elemX_eq]
    by_cases hi : i % 3 = 0
    · have e : (wrapX s (i + 1)).drop 1 ++ r = 112 :: 58 :: 97 :: 32 :: 120 :: 109 :: 108 :: 110 :: 115 :: 58 :: 112 :: 61 :: 39 :: 117 :: 39 :: 62 :: (wrapX s i ++ (shutP ++ r)) := by
        rw [wrapX, if_pos hi, List.append_assoc]
        show (openP.drop 1 ++ (wrapX s i ++ shutP)) ++ r = _
        rw [List.append_assoc, List.append_assoc]
        rfl
      rw [e, mark_P]
      simp only
      rw [tag_P]
      simp only
      rw [start_P]
      simp only
      by_cases h24 : d = 24
      · rw [if_pos h24]
      · rw [if_neg h24, if_neg (by decide)]
        cases i with
        | zero => omega
        | succ i =>
          obtain ⟨c, t, hw, hc⟩ := wrap_beg s i
          have ih := wrap_deep s i (d + 1) (sc ++ [([112], [117])]) ar (shutP ++ r) (by omega) (by omega) (by rw [find_snoc, if_neg (by decide)]; exact har)
          rw [hw] at ih ⊢
          have := kids_err (t := t ++ (shutP ++ r)) hc ih [] []
          rw [show (60 :: c :: t ++ (shutP ++ r) : Bt) = 60 :: c :: (t ++ (shutP ++ r)) from rfl, this]
    · have e : (wrapX s (i + 1)).drop 1 ++ r = 98 :: 62 :: (wrapX s i ++ (shutQ ++ r)) := by
        rw [wrapX, if_neg hi, List.append_assoc]
        show (openQ.drop 1 ++ (wrapX s i ++ shutQ)) ++ r = _
        rw [List.append_assoc, List.append_assoc]
        rfl
      rw [e, mark_Q]
      simp only
      rw [tag_Q]
      simp only
      rw [start_Q har]
      simp only
      by_cases h24 : d = 24
      · rw [if_pos h24]
      · rw [if_neg h24, if_neg (by decide)]
        cases i with
        | zero => omega
        | succ i =>
          obtain ⟨c, t, hw, hc⟩ := wrap_beg s i
          have ih := wrap_deep s i (d + 1) sc ar (shutQ ++ r) (by omega) (by omega) har
          rw [hw] at ih ⊢
          have := kids_err (t := t ++ (shutQ ++ r)) hc ih [] []
          rw [show (60 :: c :: t ++ (shutQ ++ r) : Bt) = 60 :: c :: (t ++ (shutQ ++ r)) from rfl, this]
/-- The law on depth. -/
theorem parse_deep {s : Bt} (hs : PT s) (hl : s.length ≤ 300) (n : Nat) (h1 : 24 < n) (h2 : n < 60) : parseX (wrapX s n) = (zeroX, 71) := by
  obtain ⟨i, rfl⟩ : ∃ i, n = i + 1 := ⟨n - 1, by omega⟩
  have hle := wrap_len s (i + 1)
  obtain ⟨c, t, hw, hc⟩ := wrap_beg s i
  have hc' := beg_not hc
  have hu : unbomL (wrapX s (i + 1)) = wrapX s (i + 1) := by
    unfold unbomL
    rw [hw, if_neg (by simp [bomW, List.isPrefixOf])]
  refine parse_of (by omega) (by rw [hu]; exact wrap_pt hs _) ?_
  rw [hu]
  have hd := wrap_deep s i 0 scope0 [] [] (by omega) (by omega) (by decide)
  rw [List.append_nil, hw] at hd
  unfold docX
  rw [hw, around_id (by rw [blanks_id (by decide), aside_no ⟨hc'.1, hc'.2.2.1⟩]), blanks_id (by decide)]
  simp only
  rw [show wordL [60] (60 :: c :: t) = some (c :: t) from word_yes [60] _]
  simp only
  rw [show (c :: t : Bt) = (60 :: c :: t).drop 1 from rfl, hd]
end Go.Proofs.YtklcjimmbkpbdaaGreatDoor
namespace Go.Proofs.YtklcjimmbkpbdaaGreatDoor
open Go.Lib

theorem refQ_four (l : Bt) : (refQ l).2 = 0 ∨ 4 ≤ (refQ l).2 := by
  have hf : ∀ (a k : Nat) (p : Int), 1 ≤ a → (fin l a k p).2 = 0 ∨ 4 ≤ (fin l a k p).2 := fun a k p ha => by
    unfold fin
    split
    · rename_i h
      right
      have := h.1
      show 4 ≤ a + k + 2
      omega
    · exact .inl rfl
  unfold refQ
  repeat' split
  all_goals first | exact .inr (by decide) | exact hf _ _ _ (by decide) | exact .inl rfl
theorem refs_len : ∀ (n : Nat) (l x : Bt), l.length ≤ n → refsL l = some x → x.length ≤ l.length
  | 0, l, x, h, hx => by
    have : l = [] := List.eq_nil_of_length_eq_zero (by omega)
    subst this
    injection hx with hx
    subst hx
    exact Nat.le_refl _
  | n + 1, [], x, _, hx => by
    injection hx with hx
    subst hx
    exact Nat.le_refl _
  | n + 1, c :: r, x, h, hx => by
    simp only [List.length_cons] at h ⊢
    rw [refsL_cons] at hx
    split at hx
    · split at hx
      · cases hx
      · rename_i h1
        cases hr : refsL (r.drop ((refQ r).2 - 1)) with
        | none => rw [hr] at hx; cases hx
        | some y =>
          rw [hr] at hx
          injection hx with hx
          subst hx
          have hd : (r.drop ((refQ r).2 - 1)).length = r.length - ((refQ r).2 - 1) := List.length_drop
          have := refs_len n _ y (by omega) hr
          have h4 := refQ_four r
          have h0 : (refQ r).2 ≠ 0 := fun e => h1 (.inl e)
          have hok := refQ_ok r
          have he := encodeRune_length (refQ r).1
          rw [List.length_append]
          rcases hok with e | ⟨_, _, h5, _⟩
          · exact absurd (by rw [e]) h0
          · omega
    · cases hr : refsL r with
      | none => rw [hr] at hx; cases hx
      | some y =>
        rw [hr] at hx
        injection hx with hx
        subst hx
        have := refs_len n r y (by omega) hr
        simp only [List.length_cons]
        omega
theorem lines_le : ∀ (s : Bt), (linesL s).length ≤ s.length
  | [] => Nat.le_refl _
  | c :: r => by
    have := lines_le r
    unfold linesL
    split
    · split <;> simp only [List.length_cons] <;> omega
    · simp only [List.length_cons]; omega
theorem mark_parts {s r : Bt} {m : XN} (h : markL s = some (m, r)) : m.1.length + m.2.length + r.length ≤ s.length := by
  unfold markL at h
  split at h
  · cases h
  · have hl := nameW_le s
    cases h1 : wordL [58] (s.drop (nameW s)) with
    | none =>
      rw [h1] at h
      injection h with h
      injection h with e h
      rw [← h, ← e, List.length_drop]
      simp only [List.length_nil, List.length_take]
      omega
    | some x =>
      simp only [h1] at h
      split at h
      · cases h
      · injection h with h
        injection h with e h
        have := word_len h1
        have hx := nameW_le x
        rw [List.length_drop] at this
        simp only [List.length_cons, List.length_nil] at this
        rw [← h, ← e, List.length_drop]
        simp only [List.length_take]
        omega
theorem value_parts {s v r : Bt} (h : valueL s = some (v, r)) : v.length + r.length < s.length := by
  cases s with
  | nil => cases h
  | cons q t =>
    simp only [valueL] at h
    split at h
    · cases ht : toL [q] t with
      | none => rw [ht] at h; cases h
      | some x =>
        obtain ⟨a, b⟩ := x
        rw [ht] at h
        simp only at h
        split at h
        · cases h
        · cases hr : refsL (linesL a) with
          | none => rw [hr] at h; cases h
          | some y =>
            rw [hr] at h
            injection h with h
            injection h with e1 e2
            have h1 := to_len ht
            have h2 := refs_len _ _ y (Nat.le_refl _) hr
            have h3 := lines_le a
            rw [← e1, ← e2]
            simp only [List.length_cons, List.length_nil] at h1 ⊢
            omega
    · cases h
theorem attr_parts {s r : Bt} {m : XM} (h : attrL s = some (m, r)) : m.1.1.length + m.1.2.length + m.2.length + r.length < s.length := by
  unfold attrL at h
  cases h1 : markL s with
  | none => rw [h1] at h; cases h
  | some x =>
    obtain ⟨nm, s1⟩ := x
    simp only [h1] at h
    have g1 := mark_parts h1
    cases h2 : wordL [61] (blanksL s1) with
    | none => rw [h2] at h; cases h
    | some s2 =>
      simp only [h2] at h
      have g2 := word_len h2
      have b1 := blanks_le s1
      have b2 := blanks_le s2
      cases h3 : valueL (blanksL s2) with
      | none => rw [h3] at h; cases h
      | some y =>
        obtain ⟨v, r2⟩ := y
        rw [h3] at h
        injection h with h
        injection h with e1 e2
        have g3 := value_parts h3
        rw [← e1, ← e2]
        simp only [List.length_cons, List.length_nil] at g2
        simp only
        omega
theorem tag_parts : ∀ (n : Nat) {s r : Bt} {ms : List XM} {c : Bool}, s.length ≤ n → tagL s = some (ms, c, r) → (∀ m ∈ ms, m.1.1.length ≤ s.length ∧ m.1.2.length ≤ s.length ∧ m.2.length ≤ s.length) ∧ ms.length + r.length < s.length
  | 0, s, r, ms, c, hn, h => by
    have := tag_len h
    omega
  | n + 1, s, r, ms, c, hn, h => by
    have hl := tag_len h
    have hb := blanks_le s
    rw [tagL_eq] at h
    cases h1 : wordL [47, 62] (blanksL s) with
    | some x =>
      simp only [h1] at h
      injection h with h
      injection h with e1 e2
      rw [← e1]
      exact ⟨fun m hm => absurd hm List.not_mem_nil, by simp only [List.length_nil]; omega⟩
    | none =>
      simp only [h1] at h
      cases h2 : wordL [62] (blanksL s) with
      | some x =>
        simp only [h2] at h
        injection h with h
        injection h with e1 e2
        rw [← e1]
        exact ⟨fun m hm => absurd hm List.not_mem_nil, by simp only [List.length_nil]; omega⟩
      | none =>
        simp only [h2] at h
        split at h
        · cases h
        · cases h3 : attrL (blanksL s) with
          | none => rw [h3] at h; cases h
          | some y =>
            obtain ⟨m, r1⟩ := y
            simp only [h3] at h
            have g := attr_parts h3
            cases h4 : tagL r1 with
            | none => rw [h4] at h; cases h
            | some z =>
              obtain ⟨ms1, c1, r2⟩ := z
              rw [h4] at h
              injection h with h
              injection h with e1 e2
              injection e2 with e2 e3
              simp only at e1 e2 e3
              subst e1; subst e2; subst e3
              have ih := tag_parts n (by omega) h4
              refine ⟨fun m' hm => ?_, by simp only [List.length_cons]; omega⟩
              rcases List.mem_cons.1 hm with e | hm
              · rw [e]; exact ⟨by omega, by omega, by omega⟩
              · have := ih.1 m' hm
                exact ⟨by omega, by omega, by omega⟩
theorem text_parts {s x r : Bt} (h : textL s = some (x, r)) : x.length + r.length ≤ s.length := by
  unfold textL at h
  split at h
  · cases h
  · cases hr : refsL (linesL (s.takeWhile ltN)) with
    | none => rw [hr] at h; cases h
    | some y =>
      rw [hr] at h
      injection h with h
      injection h with e1 e2
      have h2 := refs_len _ _ y (Nat.le_refl _) hr
      have h3 := lines_le (s.takeWhile ltN)
      have h4 : (s.takeWhile ltN).length + (s.dropWhile ltN).length = s.length := by rw [← List.length_append, List.takeWhile_append_dropWhile]
      rw [← e1, ← e2]
      omega
end Go.Proofs.YtklcjimmbkpbdaaGreatDoor
namespace Go.Proofs.YtklcjimmbkpbdaaGreatDoor
open Go.Lib

/-- One part of a content: what is left, the kids, the text behind them. -/
def partX (d : Nat) (sc : XS) (s : Bt) (ks : List XV) (t : Bt) : Except Int (Bt × List XV × Bt) :=
  match wordL [60, 33, 45, 45] s with
  | some r => (match remL r with
    | none => .error 70
    | some r' => .ok (r', ks, t))
  | none => match wordL [60, 63] s with
    | some r => (match insL r with
      | none => .error 70
      | some r' => .ok (r', ks, t))
    | none => match wordL cdataW s with
      | some r => (match toL cdendW r with
        | none => .error 70
        | some (a, r') => .ok (r', ks, t ++ linesL a))
      | none => match wordL [60] s with
        | some r => (match elemX d sc r with
          | .error e => .error e
          | .ok (v, r') => .ok (r', allX ks t ++ [v], []))
        | none => match textL s with
          | none => .error 70
          | some (x, r) => .ok (r, ks, t ++ x)
theorem word_pre {w s r : Bt} (h : wordL w s = some r) : w.isPrefixOf s = true := by
  unfold wordL at h
  split at h
  · assumption
  · cases h
theorem word_excl {w w' s r : Bt} (h : wordL w s = some r) (h1 : w.isPrefixOf w' = false) (h2 : w'.isPrefixOf w = false) : wordL w' s = none := by
  cases h' : wordL w' s with
  | none => rfl
  | some x =>
    exfalso
    have a := List.isPrefixOf_iff_prefix.1 (word_pre h)
    have b := List.isPrefixOf_iff_prefix.1 (word_pre h')
    rcases List.prefix_or_prefix_of_prefix a b with c | c
    · rw [List.isPrefixOf_iff_prefix.2 c] at h1; cases h1
    · rw [List.isPrefixOf_iff_prefix.2 c] at h2; cases h2
theorem kids_part {d : Nat} {sc : XS} {s : Bt} {ks : List XV} {t : Bt} (h : wordL [60, 47] s = none) : kidsX d sc s ks t = match partX d sc s ks t with
    | .error e => .error e
    | .ok (r, ks', t') => kidsX d sc r ks' t' := by
  rw [kidsX_eq, h]
  simp only
  unfold partX asideL
  cases h1 : wordL [60, 33, 45, 45] s with
  | some r =>
    simp only [word_excl h1 (w' := cdataW) (by decide) (by decide)]
    cases remL r <;> rfl
  | none =>
    simp only
    cases h2 : wordL [60, 63] s with
    | some r =>
      simp only [word_excl h2 (w' := cdataW) (by decide) (by decide)]
      cases insL r <;> rfl
    | none =>
      simp only
      cases h3 : wordL cdataW s with
      | some r =>
        simp only
        cases toL cdendW r with
        | none => rfl
        | some x => rfl
      | none =>
        simp only
        cases h4 : wordL [60] s with
        | some r =>
          simp only
          cases elemX d sc r with
          | error e => rfl
          | ok x => rfl
        | none =>
          simp only
          cases textL s with
          | none => rfl
          | some x => rfl
theorem allX_len (ks : List XV) (t : Bt) : 2 * (allX ks t).length ≤ 2 * ks.length + t.length + 1 ∧ (t = [] → (allX ks t).length = ks.length) ∧ (allX ks t).length ≤ ks.length + 1 := by
  unfold allX
  split
  · rename_i h; exact ⟨by omega, fun _ => rfl, by omega⟩
  · rename_i h
    have : 0 < t.length := List.length_pos_iff.2 h
    rw [List.length_append, List.length_singleton]
    exact ⟨by omega, fun e => absurd e h, by omega⟩
/-- A part takes something; what is read is no longer than what is taken. -/
theorem part_pot {d : Nat} {sc : XS} {s r : Bt} {ks ks' : List XV} {t t' : Bt} (h : partX d sc s ks t = .ok (r, ks', t')) : r.length < s.length ∧ 2 * ks'.length + t'.length + 2 * r.length ≤ 2 * ks.length + t.length + 2 * s.length := by
  unfold partX at h
  cases h1 : wordL [60, 33, 45, 45] s with
  | some x =>
    simp only [h1] at h
    have l1 := word_len h1
    simp only [List.length_cons, List.length_nil] at l1
    cases h2 : remL x with
    | none => rw [h2] at h; cases h
    | some y =>
      rw [h2] at h
      have l2 := rem_len h2
      injection h with h
      injection h with e1 h
      injection h with e2 e3
      subst e1; subst e2; subst e3
      omega
  | none =>
    simp only [h1] at h
    cases h3 : wordL [60, 63] s with
    | some x =>
      simp only [h3] at h
      have l1 := word_len h3
      simp only [List.length_cons, List.length_nil] at l1
      cases h2 : insL x with
      | none => rw [h2] at h; cases h
      | some y =>
        rw [h2] at h
        have l2 := ins_len h2
        injection h with h
        injection h with e1 h
        injection h with e2 e3
        subst e1; subst e2; subst e3
        omega
    | none =>
      simp only [h3] at h
      cases h4 : wordL cdataW s with
      | some x =>
        simp only [h4] at h
        have l1 := word_len h4
        simp only [cdataW, List.length_cons, List.length_nil] at l1
        cases h2 : toL cdendW x with
        | none => rw [h2] at h; cases h
        | some y =>
          obtain ⟨a, b⟩ := y
          rw [h2] at h
          have l2 := to_len h2
          have l3 := lines_le a
          injection h with h
          injection h with e1 h
          injection h with e2 e3
          subst e1; subst e2; subst e3
          rw [List.length_append]
          omega
      | none =>
        simp only [h4] at h
        cases h5 : wordL [60] s with
        | some x =>
          simp only [h5] at h
          have l1 := word_len h5
          simp only [List.length_cons, List.length_nil] at l1
          cases h2 : elemX d sc x with
          | error e => rw [h2] at h; cases h
          | ok y =>
            obtain ⟨v, b⟩ := y
            rw [h2] at h
            have l2 := elemX_len h2
            injection h with h
            injection h with e1 h
            injection h with e2 e3
            subst e1; subst e2; subst e3
            have l3 := allX_len ks t
            rw [List.length_append, List.length_singleton, List.length_nil]
            omega
        | none =>
          simp only [h5] at h
          cases h2 : textL s with
          | none => rw [h2] at h; cases h
          | some y =>
            obtain ⟨x, b⟩ := y
            rw [h2] at h
            have l2 := text_len h5 h2
            have l3 := text_parts h2
            injection h with h
            injection h with e1 h
            injection h with e2 e3
            subst e1; subst e2; subst e3
            rw [List.length_append]
            omega
/-- What an element's start is told by. -/
theorem start_scope {sc sc' : XS} {nm : XN} {ms : List XM} {v : XV} (h : startX sc nm ms = some (v, sc')) : sc' = sc ++ declsX ms ∧ v.kids = [] ∧ v.text = [] := by
  unfold startX at h
  cases h1 : scopeX sc ms with
  | none => rw [h1] at h; cases h
  | some l =>
    simp only [h1] at h
    cases h2 : findX l nm.1 with
    | none => rw [h2] at h; cases h
    | some sp =>
      simp only [h2] at h
      cases h3 : mapX (attrX l) (othersX ms) with
      | none => rw [h3] at h; cases h
      | some r =>
        simp only [h3] at h
        split at h
        · injection h with h
          injection h with e1 e2
          subst e1; subst e2
          refine ⟨?_, rfl, rfl⟩
          unfold scopeX at h1
          split at h1
          · cases h1
          · injection h1 with h1; exact h1.symm
        · cases h
theorem decl_val {ms : List XM} {d : Bt × Bt} (h : d ∈ declsX ms) : ∃ m ∈ ms, d.2 = m.2 := by
  unfold declsX at h
  obtain ⟨m, hm, he⟩ := List.mem_filterMap.1 h
  cases hd : declX m with
  | none => rw [hd] at he; cases he
  | some p =>
    rw [hd] at he
    injection he with he
    exact ⟨m, hm, by rw [← he]⟩
end Go.Proofs.YtklcjimmbkpbdaaGreatDoor
namespace Go.Proofs.YtklcjimmbkpbdaaGreatDoor
open Go.Lib

def wA (l : List XA) : Nat := (l.map fun a => a.1.length + a.2.1.length + a.2.2.length + 1).sum
mutual
/-- How much a node has. -/
def wX : XV → Nat
  | .mk sp nm al ks tx => 1 + sp.length + nm.length + tx.length + wA al + wXs ks
def wXs : List XV → Nat
  | [] => 0
  | v :: l => wX v + wXs l
end
theorem wX_eq (v : XV) : wX v = 1 + v.space.length + v.name.length + v.text.length + wA v.attrs + wXs v.kids := by
  obtain ⟨sp, nm, al, ks, tx⟩ := v
  rw [wX]
  rfl
theorem wA_mem : ∀ {l : List XA} {a : XA}, a ∈ l → a.1.length + a.2.1.length + a.2.2.length + 1 ≤ wA l
  | b :: l, a, h => by
    rw [wA, List.map_cons, List.sum_cons]
    rcases List.mem_cons.1 h with e | h
    · subst e; omega
    · have := wA_mem h
      unfold wA at this
      omega
theorem wA_len (l : List XA) : l.length ≤ wA l := by
  induction l with
  | nil => exact Nat.le_refl _
  | cons a l ih =>
    unfold wA at ih ⊢
    rw [List.map_cons, List.sum_cons, List.length_cons]
    omega
theorem wXs_mem : ∀ {l : List XV} {v : XV}, v ∈ l → wX v ≤ wXs l
  | b :: l, v, h => by
    rw [wXs]
    rcases List.mem_cons.1 h with e | h
    · subst e; omega
    · have := wXs_mem h
      omega
theorem wXs_len (l : List XV) : l.length ≤ wXs l := by
  induction l with
  | nil => exact Nat.zero_le _
  | cons v l ih =>
    rw [wXs, List.length_cons, wX_eq]
    omega
theorem wXs_append (a b : List XV) : wXs (a ++ b) = wXs a + wXs b := by
  induction a with
  | nil => rw [List.nil_append, wXs]; omega
  | cons v a ih => rw [List.cons_append, wXs, wXs, ih]; omega
/-- Attributes without a space are unlike where their names are. -/
theorem uniq_names : ∀ {l : List XA}, l.all rightAttrB = true → uniqX l = decide (l.map (·.2.1)).Nodup := by
  intro l h
  have hs : ∀ a ∈ l, a.1 = [] := fun a ha => (attr_space (List.all_eq_true.1 h a ha)).1
  have e : l.map (fun a => (a.1, a.2.1)) = (l.map (·.2.1)).map (fun n => (([] : Bt), n)) := by
    rw [List.map_map]
    refine List.map_congr_left fun a ha => ?_
    rw [hs a ha]
    rfl
  unfold uniqX
  rw [e]
  have hn : ((l.map (·.2.1)).map (fun n => (([] : Bt), n))).Nodup ↔ (l.map (·.2.1)).Nodup := by
    constructor
    · intro h
      unfold List.Nodup at h ⊢
      rw [List.pairwise_map] at h
      exact h.imp (fun hab e => hab (by rw [e]))
    · intro h
      unfold List.Nodup at h ⊢
      rw [List.pairwise_map]
      exact h.imp (fun hab e => hab (congrArg Prod.snd e))
  exact decide_eq_decide.2 hn
theorem right_attrs {l : List XA} (h : l.all rightAttrB = true) : rightAttrsB l = uniqX l := by
  unfold rightAttrsB
  rw [h, uniq_names h, Bool.true_and]
theorem right_attrs_no {l : List XA} {k : Nat} (h : k < l.length) (hb : rightAttrB l[k] = false) : rightAttrsB l = false := by
  unfold rightAttrsB
  have : l.all rightAttrB = false := by
    cases hq : l.all rightAttrB with
    | false => rfl
    | true =>
      have := List.all_eq_true.1 hq _ (List.getElem_mem h)
      rw [hb] at this
      cases this
  rw [this, Bool.false_and]
def prevB (ks : List XV) : Nat → Bool
  | 0 => false
  | i + 1 => match ks[i]? with | some k => k.name == [] | none => false
theorem rightKids_step {f : XV → Bool} {ks : List XV} {i : Nat} (h : i < ks.length) : rightKidsB f (prevB ks i) (ks.drop i) = ((if ks[i].name = [] then rightTextB ks[i] && !prevB ks i else f ks[i]) && rightKidsB f (prevB ks (i + 1)) (ks.drop (i + 1))) := by
  rw [List.drop_eq_getElem_cons h, rightKidsB]
  congr 2
  show _ = match ks[i]? with | some k => k.name == [] | none => false
  rw [List.getElem?_eq_getElem h]
end Go.Proofs.YtklcjimmbkpbdaaGreatDoor
namespace Go.Proofs.YtklcjimmbkpbdaaGreatDoor
open Go.Lib

mutual
/-- How many nodes and attributes. -/
def cX : XV → Nat
  | .mk _ _ al ks _ => 1 + al.length + cXs ks
def cXs : List XV → Nat
  | [] => 0
  | v :: l => cX v + cXs l
end
theorem cX_eq (v : XV) : cX v = 1 + v.attrs.length + cXs v.kids := by
  obtain ⟨sp, nm, al, ks, tx⟩ := v
  rw [cX]
  rfl
theorem cXs_append (a b : List XV) : cXs (a ++ b) = cXs a + cXs b := by
  induction a with
  | nil => rw [List.nil_append, cXs]; omega
  | cons v a ih => rw [List.cons_append, cXs, cXs, ih]; omega
theorem cXs_mem : ∀ {l : List XV} {v : XV}, v ∈ l → cX v ≤ cXs l
  | b :: l, v, h => by
    rw [cXs]
    rcases List.mem_cons.1 h with e | h
    · subst e; omega
    · have := cXs_mem h
      omega
theorem cXs_len (l : List XV) : l.length ≤ cXs l := by
  induction l with
  | nil => exact Nat.zero_le _
  | cons v l ih =>
    rw [cXs, List.length_cons, cX_eq]
    omega
mutual
theorem cX_wX : ∀ v : XV, cX v ≤ wX v
  | .mk sp nm al ks tx => by
    have h1 := cXs_wXs ks
    have h2 := wX_eq (.mk sp nm al ks tx)
    have h3 := wA_len al
    simp only [XV.space, XV.name, XV.text, XV.attrs, XV.kids] at h2
    rw [cX]
    omega
theorem cXs_wXs : ∀ l : List XV, cXs l ≤ wXs l
  | [] => Nat.le_refl _
  | v :: l => by
    have h1 := cX_wX v
    have h2 := cXs_wXs l
    rw [cXs, wXs]
    omega
end
theorem allX_cX (ks : List XV) (t : Bt) : 2 * cXs (allX ks t) ≤ 2 * cXs ks + t.length + 2 ∧ (t = [] → cXs (allX ks t) = cXs ks) := by
  unfold allX
  by_cases h : t = []
  · rw [if_pos h]
    exact ⟨by omega, fun _ => rfl⟩
  · rw [if_neg h, cXs_append, cXs, cXs]
    have : cX (textX t) = 1 := by rw [cX_eq]; rfl
    exact ⟨by omega, fun e => absurd e h⟩
theorem mapX_len9 {α β : Type} {f : α → Option β} : ∀ {l : List α} {r : List β}, mapX f l = some r → r.length = l.length
  | [], r, h => by injection h with h; rw [← h]; rfl
  | a :: l, r, h => by
    rw [mapX] at h
    cases ha : f a with
    | none => rw [ha] at h; cases h
    | some b =>
      rw [ha] at h
      simp only at h
      cases hl : mapX f l with
      | none => rw [hl] at h; cases h
      | some q =>
        rw [hl] at h
        injection h with h
        rw [← h, List.length_cons, List.length_cons, mapX_len9 hl]
theorem start_cX {sc sc' : XS} {nm : XN} {ms : List XM} {v : XV} (h : startX sc nm ms = some (v, sc')) : cX v ≤ 1 + ms.length := by
  unfold startX at h
  cases h1 : scopeX sc ms with
  | none => rw [h1] at h; cases h
  | some s1 =>
    rw [h1] at h
    simp only at h
    cases h2 : findX s1 nm.1 with
    | none => rw [h2] at h; cases h
    | some sp =>
      rw [h2] at h
      simp only at h
      cases h3 : mapX (attrX s1) (othersX ms) with
      | none => rw [h3] at h; cases h
      | some l =>
        rw [h3] at h
        simp only at h
        split at h
        · injection h with h
          injection h with e1 _
          have hl := mapX_len9 h3
          have ho : (othersX ms).length ≤ ms.length := List.length_filter_le _ _
          rw [← e1, cX, cXs]
          omega
        · cases h
theorem withKids_cX (v : XV) (ks : List XV) (h : v.kids = []) : cX (v.withKids ks) = cX v + cXs ks := by
  obtain ⟨sp, nm, al, k0, tx⟩ := v
  have h' : k0 = [] := h
  subst h'
  show cX (.mk sp nm al ks tx) = _
  rw [cX, cX, cXs]
  omega
theorem kidsN_cX : ∀ (n : Nat), (∀ {d : Nat} {sc : XS} {s r : Bt} {v : XV}, elemN n d sc s = .ok (v, r) → cX v + r.length ≤ s.length) ∧ (∀ {d : Nat} {sc : XS} {s r : Bt} {ks l : List XV} {t : Bt}, kidsN n d sc s ks t = .ok (l, r) → 2 * cXs l + 2 * r.length ≤ 2 * cXs ks + t.length + 2 * s.length)
  | 0 => ⟨fun h => (by rw [elemN] at h; cases h), fun h => (by rw [kidsN] at h; cases h)⟩
  | n + 1 => by
    obtain ⟨ihE, ihK⟩ := kidsN_cX n
    constructor
    · intro d sc s r v h
      rw [elemN] at h
      cases h1 : markL s with
      | none => simp only [h1] at h; cases h
      | some x =>
        obtain ⟨nm, s1⟩ := x
        simp only [h1] at h
        have l1 := mark_len h1
        cases h2 : tagL s1 with
        | none => simp only [h2] at h; cases h
        | some y =>
          obtain ⟨ms, c, s2⟩ := y
          simp only [h2] at h
          have l2 := (tag_parts _ (Nat.le_refl _) h2).2
          cases h3 : startX sc nm ms with
          | none => simp only [h3] at h; cases h
          | some z =>
            obtain ⟨v0, sc'⟩ := z
            simp only [h3] at h
            have l5 := start_cX h3
            have l6 := (start_scope h3).2.1
            split at h
            · cases h
            · split at h
              · injection h with h
                injection h with e h
                subst h
                subst e
                omega
              · cases h4 : kidsN n (d + 1) sc' s2 [] [] with
                | error e => simp only [h4] at h; cases h
                | ok u =>
                  obtain ⟨ks, s3⟩ := u
                  simp only [h4] at h
                  have l3 := ihK h4
                  rw [cXs, List.length_nil] at l3
                  cases h5 : endX nm s3 with
                  | none => simp only [h5] at h; cases h
                  | some s4 =>
                    simp only [h5] at h
                    have l4 := end_len h5
                    injection h with h
                    injection h with e h
                    subst h
                    subst e
                    rw [withKids_cX _ _ l6]
                    omega
    · intro d sc s r ks l t h
      rw [kidsN] at h
      cases h1 : wordL [60, 47] s with
      | some x =>
        simp only [h1] at h
        have l1 := word_len h1
        simp only [List.length_cons, List.length_nil] at l1
        injection h with h
        injection h with e1 e2
        subst e1; subst e2
        have := (allX_cX ks t).1
        omega
      | none =>
        simp only [h1] at h
        cases h2 : wordL cdataW s with
        | some x =>
          simp only [h2] at h
          have l2 := word_len h2
          simp only [cdataW, List.length_cons, List.length_nil] at l2
          cases h3 : toL cdendW x with
          | none => simp only [h3] at h; cases h
          | some y =>
            obtain ⟨a, b⟩ := y
            simp only [h3] at h
            have l3 := to_len h3
            have l4 := lines_le a
            have l5 := ihK h
            rw [List.length_append] at l5
            omega
        | none =>
          simp only [h2] at h
          cases h3 : asideL s with
          | none => simp only [h3] at h; cases h
          | some o =>
            cases o with
            | some x =>
              simp only [h3] at h
              have l3 := aside_len h3
              have l5 := ihK h
              omega
            | none =>
              simp only [h3] at h
              cases h4 : wordL [60] s with
              | some x =>
                simp only [h4] at h
                have l4 := word_len h4
                simp only [List.length_cons, List.length_nil] at l4
                cases h5 : elemN n d sc x with
                | error e => simp only [h5] at h; cases h
                | ok y =>
                  obtain ⟨v, b⟩ := y
                  simp only [h5] at h
                  have l5 := ihE h5
                  have l6 := ihK h
                  have l7 := allX_cX ks t
                  rw [cXs_append, cXs, cXs, List.length_nil] at l6
                  omega
              | none =>
                simp only [h4] at h
                cases h5 : textL s with
                | none => simp only [h5] at h; cases h
                | some y =>
                  obtain ⟨x, b⟩ := y
                  simp only [h5] at h
                  have l5 := text_parts h5
                  have l6 := ihK h
                  rw [List.length_append] at l6
                  omega
end Go.Proofs.YtklcjimmbkpbdaaGreatDoor
namespace Go.Proofs.YtklcjimmbkpbdaaGreatDoor
open Go.Lib

theorem lines_no13 : ∀ s : Bt, (13 : UInt8) ∉ linesL s
  | [] => by rw [linesL]; exact List.not_mem_nil
  | c :: r => by
    have ih := lines_no13 r
    rw [linesL]
    by_cases h : c = 13
    · rw [if_pos h]
      split
      · exact ih
      · intro hm
        rcases List.mem_cons.1 hm with e | e
        · exact absurd e (by decide)
        · exact ih e
    · rw [if_neg h]
      intro hm
      rcases List.mem_cons.1 hm with e | e
      · exact h e.symm
      · exact ih e
theorem lines_pass (r : Bt) : ∀ a : Bt, (13 : UInt8) ∉ a → linesL (a ++ r) = a ++ linesL r
  | [], _ => rfl
  | c :: a, h => by
    rw [List.cons_append, linesL, if_neg (fun e => h (by rw [e]; exact List.mem_cons_self)), lines_pass r a (fun e => h (List.mem_cons_of_mem _ e))]
    rfl
/-- Code points that XML has, at most so many, as bytes. -/
def PTn (n : Nat) (s : Bt) : Prop := ∃ zs, AllPt zs ∧ (∀ z ∈ zs, inXml z = true) ∧ s = enc zs ∧ zs.length ≤ n
theorem PTn.pt {n : Nat} {s : Bt} (h : PTn n s) : PT s := by
  obtain ⟨zs, h1, h2, h3, _⟩ := h
  exact ⟨zs, h1, h2, h3⟩
theorem PTn.cons {n : Nat} {s : Bt} {z : Int} (hz : isPt z = true) (hx : inXml z = true) (h : PTn n s) : PTn (n + 1) (encodeRune z ++ s) := by
  obtain ⟨zs, h1, h2, rfl, h4⟩ := h
  refine ⟨z :: zs, fun x hx => ?_, fun y hy => ?_, by simp [enc], by rw [List.length_cons]; omega⟩
  · rcases List.mem_cons.1 hx with e | e
    · rw [e]; exact hz
    · exact h1 x e
  · rcases List.mem_cons.1 hy with e | e
    · rw [e]; exact hx
    · exact h2 y e
theorem PTn.mono {n m : Nat} {s : Bt} (h : PTn n s) (hm : n ≤ m) : PTn m s := by
  obtain ⟨zs, h1, h2, h3, h4⟩ := h
  exact ⟨zs, h1, h2, h3, by omega⟩
theorem lines_enc : ∀ zs : List Int, AllPt zs → (∀ z ∈ zs, inXml z = true) → PTn zs.length (linesL (enc zs))
  | [], _, _ => ⟨[], fun _ h => absurd h List.not_mem_nil, fun _ h => absurd h List.not_mem_nil, rfl, Nat.le_refl _⟩
  | z :: zs, h1, h2 => by
    have ih := lines_enc zs (fun x hx => h1 x (List.mem_cons_of_mem _ hx)) (fun x hx => h2 x (List.mem_cons_of_mem _ hx))
    have e0 : enc (z :: zs) = encodeRune z ++ enc zs := by simp [enc]
    rw [e0]
    by_cases hz : z = 13
    · subst hz
      have e1 : encodeRune 13 = [13] := by decide
      rw [e1]
      show PTn _ (linesL (13 :: enc zs))
      rw [linesL, if_pos rfl]
      split
      · exact ih.mono (by rw [List.length_cons]; omega)
      · exact PTn.cons (z := 10) (by decide) (by decide) ih
    · have hm : (13 : UInt8) ∉ encodeRune z := fun e => hz (encodeRune_mem z (h1 z List.mem_cons_self) 13 e (by decide))
      rw [lines_pass _ _ hm]
      exact PTn.cons (h1 z List.mem_cons_self) (h2 z List.mem_cons_self) ih
theorem open_of {n : Nat} {s : Bt} (h : PTn n s) (h13 : (13 : UInt8) ∉ s) : openB s = true := by
  unfold openB
  rw [Bool.and_eq_true]
  refine ⟨(plain_iff _).2 h.pt, ?_⟩
  cases hc : s.contains 13 with
  | false => rfl
  | true => exact absurd (List.contains_iff_mem.1 hc) h13
theorem hP_enc (p : Int) : (enc (hP p)).length ≤ 6 := by
  have h1 := (encodeRune_length p).2
  have e : (enc [p]).length = (encodeRune p).length := by simp [enc]
  by_cases h38 : p = 38
  · subst h38; decide
  by_cases h60 : p = 60
  · subst h60; decide
  by_cases h62 : p = 62
  · subst h62; decide
  by_cases h34 : p = 34
  · subst h34; decide
  by_cases h39 : p = 39
  · subst h39; decide
  unfold hP
  rw [if_neg h38, if_neg h60, if_neg h62, if_neg h34, if_neg h39]
  omega
theorem hA_enc (p : Int) : (enc (hA p)).length ≤ 6 := by
  unfold hA
  by_cases h10 : p = 10
  · subst h10; decide
  by_cases h9 : p = 9
  · subst h9; decide
  rw [if_neg h10, if_neg h9]
  exact hP_enc p
theorem flat_enc {f : Int → List Int} (hf : ∀ p, (enc (f p)).length ≤ 6) : ∀ l : List Int, (enc (l.flatMap f)).length ≤ 6 * l.length
  | [] => Nat.zero_le _
  | p :: l => by
    have ih := flat_enc hf l
    have h := hf p
    have e2 : ∀ a b : List Int, enc (a ++ b) = enc a ++ enc b := fun a b => by simp [enc]
    rw [List.flatMap_cons, e2, List.length_append, List.length_cons]
    omega
theorem html_six {n : Nat} {t : Bt} (h : PTn n t) : (htmlB t).length ≤ 6 * n ∧ (attrV (htmlB t)).length ≤ 6 * n := by
  obtain ⟨zs, h1, h2, rfl, h4⟩ := h
  rw [html_of h1 h2]
  have a1 := flat_enc hP_enc zs
  have a2 := flat_enc hA_enc zs
  exact ⟨by unfold html; omega, by rw [attrV_html zs h1]; omega⟩
/-- An element a with a text, and with the same one as the value of its attribute b. -/
def nodeT (t : Bt) : XV := .mk [] [97] [([], [98], t)] (if t = [] then [] else [textX t]) []
theorem nodeT_right {t : Bt} (h : openB t = true) : rightX 24 (nodeT t) = true := by
  have hn : rightNameB [97] = true := by decide
  have hb : rightNameB [98] = true := by decide
  have h0 : openB [] = true := by decide
  unfold nodeT
  rw [rightX]
  simp only [XV.name, XV.space, XV.text, XV.attrs, XV.kids, hn, h0]
  have ha : rightAttrsB [([], [98], t)] = true := by
    unfold rightAttrsB rightAttrB
    simp [hb, h, xmlnsW]
  rw [ha]
  by_cases ht : t = []
  · rw [if_pos ht, rightKidsB]; rfl
  · rw [if_neg ht, rightKidsB, rightKidsB]
    have : rightTextB (textX t) = true := by
      unfold rightTextB textX
      simp [XV.text, XV.space, XV.attrs, XV.kids, ht, h]
    simp [textX, XV.name] at this ⊢
    exact this
theorem nodeT_back {t : Bt} (h : openB t = true) (hl : PTn 5000 t) : parseX (printX (nodeT t) []) = (nodeT t, 0) := by
  refine parse_print (nodeT_right h) ?_
  obtain ⟨h1, h2⟩ := html_six hl
  unfold nodeT
  rw [printX, if_neg (by decide)]
  have ha : (attrsP [([], [98], t)]).length ≤ 6 * 5000 + 5 := by
    unfold attrsP attrP
    simp only [List.flatMap_cons, List.flatMap_nil, List.append_nil, List.length_append, List.length_cons, List.length_nil]
    omega
  by_cases ht : t = []
  · rw [if_pos ht]
    simp only [List.length_append, List.length_cons, List.length_nil, if_pos, List.isEmpty_nil]
    omega
  · rw [if_neg ht]
    have hk : (printsX [textX t] []).length ≤ 6 * 5000 := by
      rw [printsX, printsX, List.append_nil]
      unfold textX
      rw [printX, if_pos rfl]
      exact h1
    simp only [List.length_append, List.length_cons, List.length_nil, if_pos, List.isEmpty_cons, Bool.false_eq_true, if_false]
    omega
end Go.Proofs.YtklcjimmbkpbdaaGreatDoor
