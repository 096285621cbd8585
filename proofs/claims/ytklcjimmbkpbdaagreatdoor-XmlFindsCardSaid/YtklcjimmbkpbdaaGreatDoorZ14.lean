/-
  Documents of XML, plain: what is written is read again. No conditions.
-/
import Derived.Test.YtklcjimmbkpbdaaGreatDoorZ13
namespace Go.Proofs.YtklcjimmbkpbdaaGreatDoor
open Go.Lib

theorem word_yes (w r : Bt) : wordL w (w ++ r) = some r := by
  unfold wordL
  rw [if_pos (by rw [List.isPrefixOf_iff_prefix]; exact List.prefix_append _ _), List.drop_left]
theorem word_no {w s : Bt} (h : w.isPrefixOf s = false) : wordL w s = none := by unfold wordL; rw [if_neg (by rw [h]; exact Bool.false_ne_true)]
theorem word_one (c d : UInt8) (r : Bt) : wordL [c] (d :: r) = if c = d then some r else none := by
  unfold wordL
  by_cases h : c = d
  · subst h
    rw [if_pos (by simp [List.isPrefixOf]), if_pos rfl]
    rfl
  · rw [if_neg (by simp [List.isPrefixOf, h]), if_neg h]
theorem word_nil (c : UInt8) (w : Bt) : wordL (c :: w) [] = none := word_no rfl
theorem word_cons (c d : UInt8) (w r : Bt) : wordL (c :: w) (d :: r) = if c = d then wordL w r else none := by
  unfold wordL
  by_cases h : c = d
  · subst h
    rw [if_pos rfl]
    simp only [List.isPrefixOf, beq_self_eq_true, Bool.true_and, List.length_cons, List.drop_succ_cons]
  · rw [if_neg (by simp [List.isPrefixOf, h]), if_neg h]
theorem to_one (c : UInt8) (r : Bt) : ∀ a : Bt, c ∉ a → toL [c] (a ++ c :: r) = some (a, r)
  | [], _ => by
    rw [List.nil_append, toL, if_pos (by simp [List.isPrefixOf])]
    rfl
  | d :: a, h => by
    have hd : c ≠ d := fun e => h (by rw [e]; exact List.mem_cons_self)
    rw [List.cons_append, toL, if_neg (by simp [List.isPrefixOf, hd]), to_one c r a (fun e => h (List.mem_cons_of_mem _ e))]
    rfl
theorem to_none {c : UInt8} {w : Bt} (hc : c ∈ w) : ∀ s : Bt, c ∉ s → toL w s = none
  | [], _ => rfl
  | d :: s, h => by
    rw [toL, if_neg, to_none hc s (fun e => h (List.mem_cons_of_mem _ e))]
    · rfl
    · intro hp
      exact h ((List.isPrefixOf_iff_prefix.1 hp).subset hc)
theorem while_app {p : UInt8 → Bool} : ∀ (a r : Bt), a.all p = true → (r = [] ∨ ∃ c t, r = c :: t ∧ p c = false) → (a ++ r).takeWhile p = a ∧ (a ++ r).dropWhile p = r
  | [], r, _, h => by
    rcases h with rfl | ⟨c, t, rfl, hc⟩
    · exact ⟨rfl, rfl⟩
    · rw [List.nil_append, List.takeWhile_cons_of_neg (by simp [hc]), List.dropWhile_cons_of_neg (by simp [hc])]
      exact ⟨rfl, rfl⟩
  | c :: a, r, ha, h => by
    rw [List.all_cons, Bool.and_eq_true] at ha
    have ih := while_app a r ha.2 h
    rw [List.cons_append, List.takeWhile_cons_of_pos ha.1, List.dropWhile_cons_of_pos ha.1, ih.1, ih.2]
    exact ⟨rfl, rfl⟩
/-! ### Names -/
theorem name_beg {c : UInt8} {r : Bt} (h : isNameL (c :: r) = true) : begB c = true ∧ r.all goB = true := by
  unfold isNameL at h
  rw [Bool.and_eq_true] at h
  exact h
theorem name_w {nm r : Bt} (h : isNameL nm = true) (hr : r = [] ∨ ∃ c t, r = c :: t ∧ goB c = false) : nameW (nm ++ r) = nm.length := by
  cases nm with
  | nil => cases h
  | cons c t =>
    obtain ⟨h1, h2⟩ := name_beg h
    rw [List.cons_append, nameW, if_pos h1, (while_app t r h2 hr).1, List.length_cons]
    omega
theorem beg_not {c : UInt8} (h : begB c = true) : c ≠ 33 ∧ c ≠ 47 ∧ c ≠ 63 ∧ c ≠ 62 ∧ c ≠ 58 ∧ c ≠ 61 ∧ c ≠ 60 ∧ isBl c = false := by
  unfold begB at h
  rw [decide_eq_true_eq] at h
  have k : ∀ d : UInt8, d.toNat < 65 → c ≠ d := fun d hd e => by subst e; omega
  refine ⟨k 33 (by decide), k 47 (by decide), k 63 (by decide), k 62 (by decide), k 58 (by decide), k 61 (by decide), k 60 (by decide), ?_⟩
  unfold isBl
  rw [Bool.or_eq_false_iff, Bool.or_eq_false_iff, Bool.or_eq_false_iff]
  exact ⟨⟨⟨beq_eq_false_iff_ne.2 (k 32 (by decide)), beq_eq_false_iff_ne.2 (k 9 (by decide))⟩, beq_eq_false_iff_ne.2 (k 10 (by decide))⟩, beq_eq_false_iff_ne.2 (k 13 (by decide))⟩
theorem mark_plain {nm r : Bt} {c : UInt8} (h : isNameL nm = true) (hc : goB c = false) (h58 : c ≠ 58) : markL (nm ++ c :: r) = some (([], nm), c :: r) := by
  have hw := name_w h (r := c :: r) (.inr ⟨c, r, rfl, hc⟩)
  unfold markL
  have h0 : nm.length ≠ 0 := by
    cases nm with
    | nil => cases h
    | cons _ _ => simp
  rw [hw, if_neg h0, List.drop_left, List.take_left, word_one, if_neg (fun e => h58 e.symm)]
theorem blanks_id {c : UInt8} {r : Bt} (h : isBl c = false) : blanksL (c :: r) = c :: r := by unfold blanksL; rw [List.dropWhile_cons_of_neg (by simp [h])]
theorem blanks_one {c : UInt8} {r : Bt} (h : isBl c = true) : blanksL (c :: r) = blanksL r := by unfold blanksL; rw [List.dropWhile_cons_of_pos h]
theorem name_cons {nm : Bt} (h : isNameL nm = true) : ∃ c t, nm = c :: t ∧ begB c = true := by
  cases nm with
  | nil => cases h
  | cons c t => exact ⟨c, t, rfl, (name_beg h).1⟩
/-! ### Tags -/
theorem value_back {v r : Bt} (h : openB v = true) : valueL (34 :: (attrV (htmlB v) ++ 34 :: r)) = some (v, r) := by
  obtain ⟨h1, h2, _⟩ := attr_back h
  have h34 : (34 : UInt8) ∉ attrV (htmlB v) := fun hm => (h2 34 hm).2 rfl
  have h60 : (60 : UInt8) ∉ attrV (htmlB v) := fun hm => (h2 60 hm).1 rfl
  simp only [valueL]
  rw [if_pos (by simp), to_one 34 r _ h34]
  simp only
  rw [if_neg h60, h1]
  rfl
theorem tag_attr {nm v r : Bt} (hn : isNameL nm = true) (hv : openB v = true) : tagL (attrP nm v ++ r) = (tagL r).map fun x => ((([], nm), v) :: x.1, x.2) := by
  obtain ⟨c, t, hnm, hc⟩ := name_cons hn
  have hc' := beg_not hc
  have e : attrP nm v ++ r = 32 :: (nm ++ 61 :: 34 :: (attrV (htmlB v) ++ 34 :: r)) := by simp [attrP]
  rw [e, tagL_eq]
  have hb : blanksL (32 :: (nm ++ 61 :: 34 :: (attrV (htmlB v) ++ 34 :: r))) = nm ++ 61 :: 34 :: (attrV (htmlB v) ++ 34 :: r) := by
    rw [blanks_one (by decide), hnm, List.cons_append, blanks_id hc'.2.2.2.2.2.2.2]
  have hm : markL (nm ++ 61 :: 34 :: (attrV (htmlB v) ++ 34 :: r)) = _ := mark_plain (c := 61) hn (by decide) (by decide)
  have ha : attrL (nm ++ 61 :: 34 :: (attrV (htmlB v) ++ 34 :: r)) = some ((([], nm), v), r) := by
    unfold attrL
    rw [hm]
    simp only
    rw [blanks_id (by decide), word_one, if_pos rfl]
    simp only
    rw [blanks_id (by decide), value_back hv]
    rfl
  rw [hb, ha]
  have w1 : wordL [47, 62] (nm ++ 61 :: 34 :: (attrV (htmlB v) ++ 34 :: r)) = none := by rw [hnm, List.cons_append, word_cons, if_neg (fun e => hc'.2.1 e.symm)]
  have w2 : wordL [62] (nm ++ 61 :: 34 :: (attrV (htmlB v) ++ 34 :: r)) = none := by rw [hnm, List.cons_append, word_cons, if_neg (fun e => hc'.2.2.2.1 e.symm)]
  rw [w1, w2]
  simp only
  rw [if_neg (by simp only [List.length_cons]; omega)]
/-- The attribute of a tag, as it is written. -/
def mOf (a : XA) : XM := (([], a.2.1), a.2.2)
theorem tag_attrs : ∀ (l : List XA) (r : Bt), l.all rightAttrB = true → tagL (attrsP l ++ r) = (tagL r).map fun x => (l.map mOf ++ x.1, x.2)
  | [], r, _ => by simp [attrsP]
  | a :: l, r, h => by
    rw [List.all_cons, Bool.and_eq_true] at h
    have h1 := h.1
    unfold rightAttrB rightNameB at h1
    simp only [Bool.and_eq_true] at h1
    rw [show attrsP (a :: l) ++ r = attrP a.2.1 a.2.2 ++ (attrsP l ++ r) by simp [attrsP], tag_attr h1.1.2.1 h1.2, tag_attrs l r h.2, Option.map_map]
    rfl
theorem attr_space {a : XA} (h : rightAttrB a = true) : a.1 = [] ∧ a.2.1 ≠ xmlnsW := by
  unfold rightAttrB at h
  simp only [Bool.and_eq_true, beq_iff_eq, Bool.not_eq_true', beq_eq_false_iff_ne] at h
  exact ⟨h.1.1.1, h.1.1.2⟩
theorem declX_mOf {a : XA} (h : rightAttrB a = true) : declX (mOf a) = none := by
  obtain ⟨_, h2⟩ := attr_space h
  unfold declX mOf
  simp only
  rw [if_neg (by decide), if_neg (fun e => h2 e.2)]
theorem decls_mOf : ∀ (l : List XA), l.all rightAttrB = true → declsX (l.map mOf) = [] ∧ othersX (l.map mOf) = l.map mOf
  | [], _ => ⟨rfl, rfl⟩
  | a :: l, h => by
    rw [List.all_cons, Bool.and_eq_true] at h
    obtain ⟨ih1, ih2⟩ := decls_mOf l h.2
    unfold declsX othersX at *
    rw [List.map_cons]
    constructor
    · rw [List.filterMap_cons_none (by rw [declX_mOf h.1]; rfl)]
      exact ih1
    · rw [List.filter_cons_of_pos (by rw [declX_mOf h.1]; rfl), ih2]
theorem map_mOf (sc : XS) : ∀ (l : List XA), l.all rightAttrB = true → mapX (attrX sc) (l.map mOf) = some l
  | [], _ => rfl
  | a :: l, h => by
    rw [List.all_cons, Bool.and_eq_true] at h
    have h1 := (attr_space h.1).1
    obtain ⟨s, n, v⟩ := a
    simp only at h1
    subst h1
    rw [List.map_cons, mapX]
    have : attrX sc (mOf ([], n, v)) = some ([], n, v) := by unfold attrX mOf; rw [if_pos rfl]
    rw [this, map_mOf sc l h.2]
    rfl
theorem uniq_of {l : List XA} (h : rightAttrsB l = true) : uniqX l = true := by
  unfold rightAttrsB at h
  rw [Bool.and_eq_true, decide_eq_true_eq] at h
  unfold uniqX
  rw [decide_eq_true_eq]
  have h2 : ((l.map fun a => (a.1, a.2.1)).map (·.2)).Nodup := by
    rw [List.map_map]
    exact h.2
  exact List.Pairwise.of_map (·.2) (fun a b hne e => hne (by rw [e])) h2
theorem find_snoc (p q v : Bt) : ∀ l : XS, findX (l ++ [(q, v)]) p = if q = p then some v else findX l p
  | [] => by
    show (match (none : Option Bt) with | some x => some x | none => if q = p then some v else none) = _
    rfl
  | (a, b) :: l => by
    rw [List.cons_append, findX, find_snoc p q v l]
    by_cases h : q = p
    · rw [if_pos h, if_pos h]
    · rw [if_neg h, if_neg h]
      rfl
/-- The start of an element that is written. -/
theorem start_back {sc : XS} {sp nm ar : Bt} {l : List XA} (har : findX sc [] = some ar) (hl : rightAttrsB l = true) :
    ∃ sc', startX sc ([], nm) ((if sp = ar then [] else [(([], xmlnsW), sp)]) ++ l.map mOf) = some (.mk sp nm l [] [], sc') ∧ findX sc' [] = some sp := by
  have hall : l.all rightAttrB = true := by unfold rightAttrsB at hl; rw [Bool.and_eq_true] at hl; exact hl.1
  obtain ⟨d1, d2⟩ := decls_mOf l hall
  by_cases h : sp = ar
  · subst h
    rw [if_pos rfl, List.nil_append]
    refine ⟨sc ++ [], ?_, by rw [List.append_nil]; exact har⟩
    unfold startX scopeX
    rw [d1, if_neg (by simp)]
    simp only
    rw [List.append_nil, har]
    simp only
    rw [d2, map_mOf sc l hall]
    simp only
    rw [if_pos (uniq_of hl)]
  · rw [if_neg h]
    have e1 : declsX ([(([], xmlnsW), sp)] ++ l.map mOf) = [([], sp)] := by
      unfold declsX at *
      rw [List.filterMap_append, d1]
      rfl
    have e2 : othersX ([(([], xmlnsW), sp)] ++ l.map mOf) = l.map mOf := by
      unfold othersX at *
      rw [List.filter_append, d2]
      rfl
    refine ⟨sc ++ [([], sp)], ?_, by rw [find_snoc, if_pos rfl]⟩
    unfold startX scopeX
    rw [e1, if_neg (by simp)]
    simp only
    rw [find_snoc, if_pos rfl]
    simp only
    rw [e2, map_mOf _ l hall]
    simp only
    rw [if_pos (uniq_of hl)]
theorem ltN_no {l : Bt} (h : ∀ c ∈ l, c ≠ 60) : l.all ltN = true := List.all_eq_true.2 fun c hc => by
  unfold ltN
  rw [Bool.not_eq_true', beq_eq_false_iff_ne]
  exact h c hc
theorem aside_no {c : UInt8} {r : Bt} (h : c ≠ 33 ∧ c ≠ 63) : asideL (60 :: c :: r) = some none := by
  unfold asideL
  rw [word_cons, if_pos rfl, word_cons, if_neg (fun e => h.1 e.symm)]
  simp only
  rw [word_cons, if_pos rfl, word_cons, if_neg (fun e => h.2 e.symm)]
theorem aside_lt {c : UInt8} {r : Bt} (h : c ≠ 60) : asideL (c :: r) = some none := by
  unfold asideL
  rw [word_cons, if_neg (fun e => h e.symm)]
  simp only
  rw [word_cons, if_neg (fun e => h e.symm)]
/-- What an element is written as, behind its <. -/
def tailP (v : XV) (ar : Bt) : Bt := match v with
  | .mk sp nm as ks _ => nm ++ (if sp = ar then [] else attrP xmlnsW sp) ++ attrsP as ++ (if ks.isEmpty = true then [47, 62] else 62 :: printsX ks sp ++ [60, 47] ++ nm ++ [62])
theorem print_elem {v : XV} {ar : Bt} (h : v.name ≠ []) : printX v ar = 60 :: tailP v ar := by
  obtain ⟨sp, nm, as, ks, tx⟩ := v
  have h : ¬ nm = [] := h
  rw [printX, if_neg h]
  simp only [tailP, List.cons_append, List.append_assoc]
theorem print_text {v : XV} {ar : Bt} (h : v.name = []) : printX v ar = htmlB v.text := by
  obtain ⟨sp, nm, as, ks, tx⟩ := v
  have h : nm = [] := h
  rw [printX, if_pos h]
  rfl
theorem name_ne {nm : Bt} (h : rightNameB nm = true) : nm ≠ [] ∧ isNameL nm = true ∧ openB nm = true := by
  unfold rightNameB at h
  rw [Bool.and_eq_true] at h
  refine ⟨?_, h.1, h.2⟩
  rintro rfl
  exact absurd h.1 (by decide)
theorem right_elem {n : Nat} {v : XV} (h : rightX n v = true) : v.name ≠ [] ∧ isNameL v.name = true := by
  cases n with
  | zero => cases h
  | succ n =>
    rw [rightX] at h
    simp only [Bool.and_eq_true] at h
    exact ⟨(name_ne h.1.1.1.1).1, (name_ne h.1.1.1.1).2.1⟩
theorem tail_beg {v : XV} {ar : Bt} (h : isNameL v.name = true) : ∃ c t, tailP v ar = c :: t ∧ begB c = true := by
  obtain ⟨sp, nm, as, ks, tx⟩ := v
  obtain ⟨c, t, hnm, hc⟩ := name_cons (nm := nm) h
  refine ⟨c, t ++ ((if sp = ar then [] else attrP xmlnsW sp) ++ attrsP as ++ (if ks.isEmpty = true then [47, 62] else 62 :: printsX ks sp ++ [60, 47] ++ nm ++ [62])), ?_, hc⟩
  subst hnm
  unfold tailP
  simp only [List.cons_append, List.append_assoc]
theorem text_of {k : XV} (h : rightTextB k = true) : k.text ≠ [] ∧ openB k.text = true ∧ (k.name = [] → k = textX k.text) := by
  obtain ⟨sp, nm, as, ks, tx⟩ := k
  unfold rightTextB at h
  simp only [Bool.and_eq_true, Bool.not_eq_true', beq_eq_false_iff_ne, beq_iff_eq, List.isEmpty_iff] at h
  obtain ⟨⟨⟨⟨h1, h2⟩, h3⟩, h4⟩, h5⟩ := h
  refine ⟨h1, h2, fun hn => ?_⟩
  simp only [XV.space, XV.name, XV.attrs, XV.kids, XV.text] at *
  subst h3; subst h4; subst h5; subst hn
  rfl
/-- The kids of an element that is written, if each of them is read again. -/
theorem kids_back {f : XV → Bool} {d : Nat} {sc : XS} {sp r : Bt} (hf : ∀ v, f v = true → v.name ≠ [] ∧ isNameL v.name = true ∧ ∀ r, elemX d sc (tailP v sp ++ r) = .ok (v, r)) :
    ∀ (l : List XV) (p : Bool) (ks : List XV) (t : Bt), rightKidsB f p l = true → (p = false → t = []) → kidsX d sc (printsX l sp ++ 60 :: 47 :: r) ks t = .ok (allX ks t ++ l, r)
  | [], p, ks, t, _, _ => by
    rw [printsX, List.nil_append, kidsX_eq, word_cons, if_pos rfl, word_cons, if_pos rfl]
    show Except.ok (allX ks t, r) = _
    rw [List.append_nil]
  | k :: l, p, ks, t, h, hp => by
    rw [rightKidsB, Bool.and_eq_true] at h
    obtain ⟨h1, h2⟩ := h
    rw [printsX, List.append_assoc]
    by_cases hk : k.name = []
    · rw [if_pos hk, Bool.and_eq_true] at h1
      obtain ⟨t1, t2, t3⟩ := text_of h1.1
      have hpf : p = false := by simpa using h1.2
      have ht := hp hpf
      subst ht
      have hke := t3 hk
      obtain ⟨b1, b2, _⟩ := html_back t2
      have hne := html_ne t2 t1
      have hnx : ∃ y, printsX l sp ++ 60 :: 47 :: r = 60 :: y := by
        cases l with
        | nil => exact ⟨_, rfl⟩
        | cons k2 l2 =>
          rw [rightKidsB, Bool.and_eq_true] at h2
          have h3 := h2.1
          rw [hk] at h3
          by_cases hk2 : k2.name = []
          · rw [if_pos hk2] at h3
            simp at h3
          · rw [printsX, print_elem hk2]
            exact ⟨_, rfl⟩
      obtain ⟨y, hy⟩ := hnx
      have hw := while_app (p := ltN) (htmlB k.text) (printsX l sp ++ 60 :: 47 :: r) (ltN_no fun c hc => (b2 c hc).1) (.inr ⟨60, y, hy, by decide⟩)
      rw [print_text hk, kidsX_eq]
      obtain ⟨c, u, hcu⟩ := List.exists_cons_of_ne_nil hne
      have hc60 : c ≠ 60 := (b2 c (by rw [hcu]; exact List.mem_cons_self)).1
      have w1 : ∀ (w : Bt) (z : UInt8), wordL (60 :: w) (htmlB k.text ++ (printsX l sp ++ 60 :: 47 :: r)) = none := fun w _ => by rw [hcu, List.cons_append, word_cons, if_neg (fun e => hc60 e.symm)]
      have ha : asideL (htmlB k.text ++ (printsX l sp ++ 60 :: 47 :: r)) = some none := by rw [hcu, List.cons_append, aside_lt hc60]
      have htx : textL (htmlB k.text ++ (printsX l sp ++ 60 :: 47 :: r)) = some (k.text, printsX l sp ++ 60 :: 47 :: r) := by
        unfold textL
        rw [hw.1, hw.2, to_none (c := 62) (by decide) _ (fun hm => (b2 62 hm).2.1 rfl), if_neg (by rw [hy]; simp), b1]
        rfl
      rw [show cdataW = 60 :: [33, 91, 67, 68, 65, 84, 65, 91] from rfl, w1 _ 0, w1 _ 0, w1 _ 0, ha, htx]
      simp only [List.nil_append]
      rw [kids_back hf l (k.name == []) ks k.text h2 (fun e => by rw [hk] at e; cases e)]
      conv => rhs; rw [hke]
      unfold allX
      rw [if_neg t1, if_pos rfl]
      simp [List.append_assoc]
    · rw [if_neg hk] at h1
      obtain ⟨f1, f2, f3⟩ := hf k h1
      obtain ⟨c, u, hcu, hc⟩ := tail_beg (ar := sp) f2
      have hc' := beg_not hc
      rw [print_elem hk, List.cons_append, kidsX_eq]
      have w1 : wordL [60, 47] (60 :: (tailP k sp ++ (printsX l sp ++ 60 :: 47 :: r))) = none := by rw [word_cons, if_pos rfl, hcu, List.cons_append, word_cons, if_neg (fun e => hc'.2.1 e.symm)]
      have w2 : wordL cdataW (60 :: (tailP k sp ++ (printsX l sp ++ 60 :: 47 :: r))) = none := by
        show wordL (60 :: 33 :: [91, 67, 68, 65, 84, 65, 91]) _ = none
        rw [word_cons, if_pos rfl, hcu, List.cons_append, word_cons, if_neg (fun e => hc'.1 e.symm)]
      have ha : asideL (60 :: (tailP k sp ++ (printsX l sp ++ 60 :: 47 :: r))) = some none := by rw [hcu, List.cons_append, aside_no ⟨hc'.1, hc'.2.2.1⟩]
      have w3 : wordL [60] (60 :: (tailP k sp ++ (printsX l sp ++ 60 :: 47 :: r))) = some (tailP k sp ++ (printsX l sp ++ 60 :: 47 :: r)) := by rw [word_cons, if_pos rfl]; rfl
      rw [w1, w2, ha, w3]
      simp only
      rw [f3]
      simp only
      have hkn : (k.name == []) = false := beq_eq_false_iff_ne.2 hk
      rw [hkn] at h2
      rw [kids_back hf l false (allX ks t ++ [k]) [] h2 (fun _ => rfl)]
      have : allX (allX ks t ++ [k]) [] = allX ks t ++ [k] := by
        show (if ([] : Bt) = [] then allX ks t ++ [k] else _) = _
        rw [if_pos rfl]
      rw [this, List.append_assoc]
      rfl
theorem end_back {nm r : Bt} : endX ([], nm) (nm ++ 62 :: r) = some r := by
  unfold endX writtenX
  rw [if_pos rfl, word_yes]
  simp only
  rw [blanks_id (by decide), word_cons, if_pos rfl]
  rfl
theorem elem_back : ∀ (n : Nat) (v : XV) (d : Nat) (sc : XS) (ar r : Bt), rightX n v = true → d + n ≤ 24 → findX sc [] = some ar → elemX d sc (tailP v ar ++ r) = .ok (v, r)
  | 0, v, d, sc, ar, r, h, _, _ => by cases h
  | n + 1, .mk sp nm as ks tx, d, sc, ar, r, h, hd, har => by
    rw [rightX] at h
    simp only [Bool.and_eq_true, XV.name, XV.space, XV.text, XV.attrs, XV.kids, beq_iff_eq] at h
    obtain ⟨⟨⟨⟨h1, h2⟩, h3⟩, h4⟩, h5⟩ := h
    subst h3
    obtain ⟨n1, n2, n3⟩ := name_ne h1
    have hall : as.all rightAttrB = true := by unfold rightAttrsB at h4; rw [Bool.and_eq_true] at h4; exact h4.1
    obtain ⟨sc', hst, hfi⟩ := start_back (sp := sp) (nm := nm) har h4
    obtain ⟨tl, htl⟩ : ∃ tl, tl = (if ks.isEmpty = true then [47, 62] else 62 :: printsX ks sp ++ [60, 47] ++ nm ++ [62]) ++ r := ⟨_, rfl⟩
    have e : tailP (.mk sp nm as ks []) ar ++ r = nm ++ ((if sp = ar then [] else attrP xmlnsW sp) ++ (attrsP as ++ tl)) := by
      rw [htl]
      simp only [tailP, List.append_assoc]
    rw [e]
    -- what follows the name
    have hnext : ∃ c y, (if sp = ar then [] else attrP xmlnsW sp) ++ (attrsP as ++ tl) = c :: y ∧ goB c = false ∧ c ≠ 58 := by
      by_cases hs : sp = ar
      · rw [if_pos hs, List.nil_append]
        cases as with
        | nil =>
          rw [htl]
          by_cases hk : ks.isEmpty = true
          · rw [if_pos hk]; exact ⟨47, _, rfl, by decide, by decide⟩
          · rw [if_neg hk]; exact ⟨62, _, rfl, by decide, by decide⟩
        | cons a l => exact ⟨32, _, rfl, by decide, by decide⟩
      · rw [if_neg hs]
        exact ⟨32, _, rfl, by decide, by decide⟩
    obtain ⟨c, y, hy, hc1, hc2⟩ := hnext
    have htag : tagL ((if sp = ar then [] else attrP xmlnsW sp) ++ (attrsP as ++ tl)) = (tagL tl).map fun x => (((if sp = ar then [] else [(([], xmlnsW), sp)]) ++ as.map mOf) ++ x.1, x.2) := by
      by_cases hs : sp = ar
      · rw [if_pos hs, if_pos hs, List.nil_append, List.nil_append, tag_attrs as tl hall]
      · rw [if_neg hs, if_neg hs, tag_attr (by decide) h2, tag_attrs as tl hall, Option.map_map]
        rfl
    rw [elemX_eq, hy, mark_plain n2 hc1 hc2]
    simp only
    rw [← hy, htag, htl]
    by_cases hk : ks.isEmpty = true
    · rw [if_pos hk]
      have htl2 : tagL ([47, 62] ++ r) = some ([], true, r) := by
        rw [tagL_eq]
        rw [show ([47, 62] ++ r : Bt) = 47 :: 62 :: r from rfl, blanks_id (by decide), word_cons, if_pos rfl, word_cons, if_pos rfl]
        rfl
      rw [htl2]
      simp only [Option.map_some, List.append_nil]
      rw [hst]
      simp only
      rw [if_neg (by omega), if_pos trivial]
      rw [List.isEmpty_iff] at hk
      rw [hk]
    · rw [if_neg hk]
      have htl2 : tagL (62 :: printsX ks sp ++ [60, 47] ++ nm ++ [62] ++ r) = some ([], false, printsX ks sp ++ 60 :: 47 :: (nm ++ 62 :: r)) := by
        have e2 : 62 :: printsX ks sp ++ [60, 47] ++ nm ++ [62] ++ r = 62 :: (printsX ks sp ++ 60 :: 47 :: (nm ++ 62 :: r)) := by simp
        rw [e2, tagL_eq, blanks_id (by decide), word_cons, if_neg (by decide)]
        simp only
        rw [word_cons, if_pos rfl]
        rfl
      rw [htl2]
      simp only [Option.map_some, List.append_nil]
      rw [hst]
      simp only
      rw [if_neg (by omega), if_neg (by decide)]
      have hkb := kids_back (f := rightX n) (d := d + 1) (sc := sc') (sp := sp) (r := nm ++ 62 :: r) (fun v hv => ⟨(right_elem hv).1, (right_elem hv).2, fun r => elem_back n v (d + 1) sc' sp r hv (by omega) hfi⟩) ks false [] [] h5 (fun _ => rfl)
      rw [hkb]
      simp only
      rw [end_back]
      simp only [XV.withKids]
      rfl
/-! ### Documents -/
theorem print_pt : ∀ (v : XV) (n : Nat) (ar : Bt), (rightX n v = true ∨ (v.name = [] ∧ rightTextB v = true)) → PT (printX v ar)
  | .mk sp nm as ks tx, n, ar, h => by
    have hA : ∀ (m v : Bt), isNameL m = true → openB m = true → openB v = true → PT (attrP m v) := by
      intro m v _ hm hv
      have hmp : PT m := (plain_iff m).1 (by unfold openB at hm; rw [Bool.and_eq_true] at hm; exact hm.1)
      unfold attrP
      exact (((PT.append (a := [32]) (PT.ascii (by decide)) hmp).append (PT.ascii (by decide))).append (attr_back hv).2.2).append (PT.ascii (by decide))
    by_cases hn : nm = []
    · rw [printX, if_pos hn]
      rcases h with h | h
      · exact absurd hn (right_elem h).1
      · exact (html_back (text_of h.2).2.1).2.2
    · rw [printX, if_neg hn]
      rcases h with h | h
      · cases n with
        | zero => cases h
        | succ n =>
          rw [rightX] at h
          simp only [Bool.and_eq_true, XV.name, XV.space, XV.text, XV.attrs, XV.kids, beq_iff_eq] at h
          obtain ⟨⟨⟨⟨h1, h2⟩, h3⟩, h4⟩, h5⟩ := h
          obtain ⟨n1, n2, n3⟩ := name_ne h1
          have hnp : PT nm := (plain_iff nm).1 (by unfold openB at n3; rw [Bool.and_eq_true] at n3; exact n3.1)
          have hall : ∀ (l : List XA), l.all rightAttrB = true → PT (attrsP l) := by
            intro l
            induction l with
            | nil => intro _; exact PT.nil
            | cons a l ih =>
              intro hl
              rw [List.all_cons, Bool.and_eq_true] at hl
              have ha := hl.1
              unfold rightAttrB at ha
              simp only [Bool.and_eq_true] at ha
              obtain ⟨q1, q2, q3⟩ := name_ne ha.1.2
              exact (hA _ _ q2 q3 ha.2).append (ih hl.2)
          have has : PT (attrsP as) := hall as (by unfold rightAttrsB at h4; rw [Bool.and_eq_true] at h4; exact h4.1)
          have hks : PT (printsX ks sp) := prints_pt ks n sp false h5
          have h60 : PT [60] := PT.ascii (by decide)
          refine ((((h60.append hnp).append ?_).append has).append ?_)
          · split
            · exact PT.nil
            · exact hA _ _ (by decide) (by decide) h2
          · split
            · exact PT.ascii (by decide)
            · exact ((((PT.ascii (l := [62]) (by decide)).append hks).append (PT.ascii (by decide))).append hnp).append (PT.ascii (by decide))
      · exact absurd h.1 hn
where
  prints_pt : ∀ (l : List XV) (n : Nat) (sp : Bt) (p : Bool), rightKidsB (rightX n) p l = true → PT (printsX l sp)
  | [], _, _, _, _ => by rw [printsX]; exact PT.nil
  | k :: l, n, sp, p, h => by
    rw [rightKidsB, Bool.and_eq_true] at h
    rw [printsX]
    refine (print_pt k n sp ?_).append (prints_pt l n sp _ h.2)
    have h1 := h.1
    by_cases hk : k.name = []
    · rw [if_pos hk, Bool.and_eq_true] at h1
      exact .inr ⟨hk, h1.1⟩
    · rw [if_neg hk] at h1
      exact .inl h1
theorem around_id {s : Bt} (h : asideL (blanksL s) = some none) : aroundL s = some (blanksL s) := by rw [aroundL_eq, h]
theorem around_nil : aroundL [] = some [] := by decide
/-- What is written is read again. -/
theorem parse_print {v : XV} (h : rightX 24 v = true) (hl : (printX v []).length ≤ 65536) : parseX (printX v []) = (v, 0) := by
  obtain ⟨h1, h2⟩ := right_elem h
  obtain ⟨c, t, hct, hc⟩ := tail_beg (ar := []) h2
  have hc' := beg_not hc
  have hp := print_pt v 24 [] (.inl h)
  have hu : unbomL (printX v []) = printX v [] := by
    unfold unbomL
    rw [print_elem h1, if_neg (by simp [bomW, List.isPrefixOf])]
  unfold parseX
  rw [if_neg (by omega), hu, if_pos ((plain_iff _).2 hp)]
  rw [print_elem h1]
  unfold docX
  rw [around_id (by rw [blanks_id (by decide), hct, aside_no ⟨hc'.1, hc'.2.2.1⟩]), blanks_id (by decide)]
  simp only
  rw [word_cons, if_pos rfl]
  have he := elem_back 24 v 0 scope0 [] [] h (by omega) (by decide)
  rw [List.append_nil] at he
  have hw : wordL [] (tailP v []) = some (tailP v []) := by unfold wordL; rw [if_pos (by simp)]; rfl
  rw [hw]
  simp only
  rw [he]
  simp only
  rw [around_nil]
  simp
end Go.Proofs.YtklcjimmbkpbdaaGreatDoor
