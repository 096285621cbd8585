/-
  Elements of XML, plain, in the document's order: end tags by their names, what prefixes stand for, attributes one by one. No conditions.
-/
import Derived.Test.YtklcjimmbkpbdaaGreatDoorZ16
import Derived.Test.YtklcjimmbkpbdaaGreatDoorZ02
namespace Go.Proofs.YtklcjimmbkpbdaaGreatDoor
open Go.Lib
def ValidN (nm : XN) : Prop := (nm.1 = [] ∨ isNameL nm.1 = true) ∧ isNameL nm.2 = true
theorem ValidN.ne {nm : XN} (h : ValidN nm) : nm.2 ≠ [] := fun e => by
 have := h.2
 rw [e] at this
 cases this
theorem name_take {s : Bt} (h : nameW s ≠ 0) : isNameL (s.take (nameW s)) = true := by
 cases s with
 | nil => exact absurd rfl h
 | cons c t =>
  by_cases hb : begB c = true
  ·have e : nameW (c :: t) = (t.takeWhile goB).length + 1 := by rw [nameW, if_pos hb, Nat.add_comm]
   rw [e, List.take_succ_cons, ← List.prefix_iff_eq_take.1 (List.takeWhile_prefix goB)]
   show (begB c && (t.takeWhile goB).all goB) = true
   rw [hb, Bool.true_and]
   exact List.all_takeWhile
  ·exact absurd (by rw [nameW, if_neg hb]) h
theorem mark_valid {s r : Bt} {nm : XN} (h : markL s = some (nm, r)) : ValidN nm ∧ s = writtenX nm ++ r := by
 unfold markL at h
 split at h
 ·cases h
 ·rename_i h0
  have hn := name_take h0
  have hne : s.take (nameW s) ≠ [] := fun e => by rw [e] at hn; cases hn
  cases hw : wordL [58] (s.drop (nameW s)) with
  | none =>
   rw [hw] at h
   injection h with h
   injection h with h1 h2
   subst h1; subst h2
   refine ⟨⟨.inl rfl, hn⟩, ?_⟩
   unfold writtenX
   rw [if_pos rfl, List.take_append_drop]
  | some q =>
   rw [hw] at h
   simp only at h
   split at h
   ·cases h
   ·rename_i h3
    injection h with h
    injection h with h1 h2
    subst h1; subst h2
    refine ⟨⟨.inr hn, name_take h3⟩, ?_⟩
    unfold writtenX
    rw [if_neg hne]
    have e : s.drop (nameW s) = 58 :: q := by
     unfold wordL at hw
     split at hw
     ·rename_i hp
      injection hw with hw
      obtain ⟨u, hu⟩ := List.isPrefixOf_iff_prefix.1 hp
      rw [← hu] at hw ⊢
      rw [← hw]
      rfl
     ·cases hw
    show s = s.take (nameW s) ++ 58 :: q.take (nameW q) ++ q.drop (nameW q)
    rw [List.append_assoc, List.cons_append, List.take_append_drop, ← e, List.take_append_drop]
theorem mark_back {nm : XN} {c : UInt8} {r : Bt} (h : ValidN nm) (hc : goB c = false) (h58 : c ≠ 58) : markL (writtenX nm ++ c :: r) = some (nm, c :: r) := by
 obtain ⟨p, n⟩ := nm
 by_cases hp : p = []
 ·subst hp
  exact mark_plain h.2 hc h58
 ·have hpn : isNameL p = true := h.1.resolve_left hp
  have e : writtenX (p, n) ++ c :: r = p ++ 58 :: (n ++ c :: r) := by
   unfold writtenX
   rw [if_neg hp]
   simp
  have hw := name_w hpn (r := 58 :: (n ++ c :: r)) (.inr ⟨58, _, rfl, by decide⟩)
  have hw2 := name_w h.2 (r := c :: r) (.inr ⟨c, r, rfl, hc⟩)
  have hl : ∀ {x : Bt}, isNameL x = true → x.length ≠ 0 := fun {x} hx => by cases x with | nil => cases hx | cons => simp
  rw [e]
  unfold markL
  rw [hw, if_neg (hl hpn), List.drop_left, List.take_left, word_one, if_pos rfl]
  simp only
  have hw3 : nameW (n ++ c :: r) = n.length := hw2
  rw [hw3, if_neg (hl h.2), List.drop_left, List.take_left]
theorem blank_first {r : Bt} (h : wordL [62] (blanksL r) ≠ none) : ∃ c t, r = c :: t ∧ goB c = false ∧ c ≠ 58 := by
 cases r with
 | nil => exact absurd rfl h
 | cons c t =>
  refine ⟨c, t, rfl, ?_⟩
  by_cases hb : isBl c = true
  ·unfold isBl at hb
   simp only [Bool.or_eq_true, beq_iff_eq] at hb
   rcases hb with ((rfl | rfl) | rfl) | rfl <;> exact ⟨by decide, by decide⟩
  ·rw [blanks_id (by simpa using hb), word_one] at h
   by_cases h62 : (62 : UInt8) = c
   ·subst h62; exact ⟨by decide, by decide⟩
   ·rw [if_neg h62] at h; exact absurd rfl h
theorem word_app9 (a r : Bt) : wordL a (a ++ r) = some r := by
 unfold wordL
 rw [if_pos (List.isPrefixOf_iff_prefix.2 (List.prefix_append a r)), List.drop_left]
theorem word_eq9 {a s r : Bt} (h : wordL a s = some r) : s = a ++ r := by
 unfold wordL at h
 split at h
 ·rename_i hp
  injection h with h
  obtain ⟨u, hu⟩ := List.isPrefixOf_iff_prefix.1 hp
  rw [← hu, List.drop_left] at h
  rw [← hu, h]
 ·cases h
theorem end_mark {nm : XN} (h : ValidN nm) (s : Bt) : endX nm s = match markL s with | none => none | some (nm', r) => if nm' = nm then wordL [62] (blanksL r) else none := by
 unfold endX
 cases hw : wordL (writtenX nm) s with
 | none =>
  simp only
  cases hm : markL s with
  | none => rfl
  | some y =>
   obtain ⟨nm', r⟩ := y
   simp only
   by_cases e : nm' = nm
   ·subst e
    rw [(mark_valid hm).2, word_app9] at hw
    cases hw
   ·rw [if_neg e]
 | some r =>
  simp only
  have hs := word_eq9 hw
  by_cases hL : wordL [62] (blanksL r) = none
  ·rw [hL]
   cases hm : markL s with
   | none => rfl
   | some y =>
    obtain ⟨nm', r'⟩ := y
    simp only
    by_cases e : nm' = nm
    ·subst e
     have h2 := (mark_valid hm).2
     rw [hs] at h2
     have h3 := List.append_cancel_left h2
     rw [if_pos rfl, ← h3, hL]
    ·rw [if_neg e]
  ·obtain ⟨c, t, rfl, h1, h2⟩ := blank_first hL
   rw [hs, mark_back h h1 h2]
   simp only [if_true]
theorem tagN_names : ∀ (n : Nat) {s r : Bt} {ms : List XM} {c : Bool}, s.length ≤ n → tagL s = some (ms, c, r) → ∀ m ∈ ms, m.1.2 ≠ []
 | 0, s, r, ms, c, hl, h, m, hm => by
  have : s = [] := List.eq_nil_of_length_eq_zero (by omega)
  subst this
  have e : tagL [] = none := by decide
  rw [e] at h
  cases h
 | n + 1, s, r, ms, c, hl, h, m, hm => by
  rw [tagL_eq] at h
  cases h1 : wordL [47, 62] (blanksL s) with
  | some x =>
   rw [h1] at h
   injection h with h
   injection h with h _
   subst h
   cases hm
  | none =>
   simp only [h1] at h
   cases h2 : wordL [62] (blanksL s) with
   | some x =>
    rw [h2] at h
    injection h with h
    injection h with h _
    subst h
    cases hm
   | none =>
    simp only [h2] at h
    split at h
    ·cases h
    ·cases h3 : attrL (blanksL s) with
     | none => rw [h3] at h; cases h
     | some y =>
      obtain ⟨a, q⟩ := y
      simp only [h3] at h
      have la := attr_len h3
      have lb := blanks_le s
      cases h4 : tagL q with
      | none => rw [h4] at h; cases h
      | some z =>
       obtain ⟨ms', c', r'⟩ := z
       rw [h4] at h
       injection h with h
       injection h with h _
       subst h
       rcases List.mem_cons.1 hm with e | hm
       ·subst e
        unfold attrL at h3
        cases h5 : markL (blanksL s) with
        | none => rw [h5] at h3; cases h3
        | some u =>
         obtain ⟨nm, r1⟩ := u
         simp only [h5] at h3
         cases h6 : wordL [61] (blanksL r1) with
         | none => rw [h6] at h3; cases h3
         | some r2 =>
          simp only [h6] at h3
          cases h7 : valueL (blanksL r2) with
          | none => rw [h7] at h3; cases h3
          | some v =>
           rw [h7] at h3
           injection h3 with h3
           injection h3 with h3 _
           subst h3
           exact (mark_valid h5).1.ne
       ·exact tagN_names n (by omega) h4 m hm
theorem tag_names {s r : Bt} {ms : List XM} {c : Bool} (h : tagL s = some (ms, c, r)) : ∀ m ∈ ms, m.1.2 ≠ [] := tagN_names _ (Nat.le_refl _) h
theorem decl_inj {m m' : XM} {p : Bt} (h1 : m.1.2 ≠ []) (h2 : m'.1.2 ≠ []) (h : declX m = some p) (h' : declX m' = some p) : m.1 = m'.1 := by
 obtain ⟨⟨a, b⟩, v⟩ := m
 obtain ⟨⟨a', b'⟩, v'⟩ := m'
 unfold declX at h h'
 simp only at h h' h1 h2 ⊢
 split at h <;> split at h'
 ·rename_i e e'
  injection h with h; injection h' with h'
  rw [e, e', h, h']
 ·split at h'
  ·injection h with h; injection h' with h'
   rw [← h'] at h
   exact absurd h h1
  ·cases h'
 ·split at h
  ·injection h with h; injection h' with h'
   rw [← h] at h'
   exact absurd h' h2
  ·cases h
 ·split at h
  ·split at h'
   ·rename_i e e'
    rw [e.1, e.2, e'.1, e'.2]
   ·cases h'
  ·cases h
theorem decl_same {m m' : XM} (h : m.1 = m'.1) : declX m = declX m' := by unfold declX; rw [h]
def G1 (ms : List XM) : Prop := (declsX ms).any badD = false ∧ ((declsX ms).map (·.1)).Nodup
theorem G1.nil : G1 [] := ⟨rfl, List.nodup_nil⟩
theorem decls_take {ms : List XM} {k : Nat} (hk : k < ms.length) : declsX (ms.take (k + 1)) = declsX (ms.take k) ++ (match declX ms[k] with | some p => [(p, ms[k].2)] | none => []) := by
 rw [List.take_succ_eq_append_getElem hk, decls_snoc]
 rfl
theorem others_take {ms : List XM} {k : Nat} (hk : k < ms.length) : othersX (ms.take (k + 1)) = othersX (ms.take k) ++ (if (declX ms[k]).isNone then [ms[k]] else []) := by
 rw [List.take_succ_eq_append_getElem hk, others_snoc]
theorem G1.other {ms : List XM} {k : Nat} (hk : k < ms.length) (h : declX ms[k] = none) (g : G1 (ms.take k)) : G1 (ms.take (k + 1)) ∧ declsX (ms.take (k + 1)) = declsX (ms.take k) := by
 have e := decls_take hk
 rw [h] at e
 simp only [List.append_nil] at e
 unfold G1
 rw [e]
 exact ⟨g, rfl⟩
theorem G1.decl {ms : List XM} {k : Nat} {p : Bt} (hk : k < ms.length) (hn : ∀ m ∈ ms, m.1.2 ≠ []) (h : declX ms[k] = some p) (hb : badD (p, ms[k].2) = false) (hd : ∀ j (hj : j < ms.length), j < k → ms[j].1 ≠ ms[k].1) (g : G1 (ms.take k)) : G1 (ms.take (k + 1)) ∧ declsX (ms.take (k + 1)) = declsX (ms.take k) ++ [(p, ms[k].2)] := by
 have e := decls_take hk
 rw [h] at e
 simp only at e
 refine ⟨?_, e⟩
 unfold G1
 rw [e]
 refine ⟨by rw [List.any_append, g.1, List.any_cons, List.any_nil, hb]; rfl, ?_⟩
 rw [List.map_append, List.map_cons, List.map_nil]
 refine List.nodup_append.2 ⟨g.2, List.pairwise_singleton _ _, ?_⟩
 intro a ha b hb2 e2
 rw [List.mem_singleton] at hb2
 simp only at hb2
 rw [hb2] at e2
 obtain ⟨d, hd2, rfl⟩ := List.mem_map.1 ha
 unfold declsX at hd2
 obtain ⟨m, hm, he⟩ := List.mem_filterMap.1 hd2
 cases hq : declX m with
 | none => rw [hq] at he; cases he
 | some q =>
  rw [hq] at he
  injection he with he
  rw [← he] at e2
  simp only at e2
  subst e2
  obtain ⟨j, hj, rfl⟩ := List.getElem_of_mem hm
  rw [List.length_take] at hj
  rw [List.getElem_take] at hq hm
  have hjl : j < ms.length := by omega
  exact hd j hjl (by omega) (decl_inj (hn _ (List.getElem_mem hjl)) (hn _ (List.getElem_mem hk)) hq h)
theorem scope_dup {sc : XS} {ms : List XM} {p : Bt} {j k : Nat} (hk : k < ms.length) (hj : j < k) (h : declX ms[k] = some p) (e : (ms[j]'(by omega)).1 = ms[k].1) : scopeX sc ms = none := by
 have hjl : j < ms.length := by omega
 have hj2 : declX (ms[j]'hjl) = some p := by rw [decl_same e, h]
 unfold scopeX
 rw [if_pos]
 right
 intro hn
 have e1 : ms = ms.take j ++ (ms[j]'hjl :: (ms.drop (j + 1)).take (k - (j + 1)) ++ ms[k] :: ms.drop (k + 1)) := by
  have h1 : ms.drop (j + 1) = (ms.drop (j + 1)).take (k - (j + 1)) ++ ms[k] :: ms.drop (k + 1) := by
   conv => lhs; rw [← List.take_append_drop (k - (j + 1)) (ms.drop (j + 1))]
   rw [List.drop_drop, show j + 1 + (k - (j + 1)) = k by omega, List.drop_eq_getElem_cons hk]
  rw [List.cons_append, ← h1, ← List.drop_eq_getElem_cons hjl, List.take_append_drop]
 generalize ms[j]'hjl = a at *
 generalize ms[k] = b at *
 rw [e1] at hn
 unfold declsX at hn
 simp only [List.filterMap_append, List.filterMap_cons, hj2, h, Option.map_some, List.map_append, List.map_cons, List.cons_append] at hn
 have h3 := (List.nodup_append.1 hn).2.1
 have h4 := (List.nodup_cons.1 h3).1
 exact h4 (by simp)
theorem start_scope_none {sc : XS} {nm : XN} {ms : List XM} (h : scopeX sc ms = none) : startX sc nm ms = none := by unfold startX; rw [h]
theorem G1.scope {sc : XS} {ms : List XM} (g : G1 ms) : scopeX sc ms = some (sc ++ declsX ms) := by
 unfold scopeX
 rw [if_neg]
 rintro (h | h)
 ·have := g.1
  unfold badD at this
  rw [this] at h
  cases h
 ·exact h g.2
theorem find_some (p : Bt) : ∀ (l d : XS), (findX l p).isSome = true → (findX (l ++ d) p).isSome = true
 | [], d, h => by cases h
 | (q, v) :: l, d, h => by
  show (match findX (l ++ d) p with | some x => some x | none => if q = p then some v else none).isSome = true
  have h' : (match findX l p with | some x => some x | none => if q = p then some v else none).isSome = true := h
  cases hl : findX l p with
  | some x =>
   have := find_some p l d (by rw [hl]; rfl)
   cases hd : findX (l ++ d) p with
   | some y => rfl
   | none => rw [hd] at this; cases this
  | none =>
   rw [hl] at h'
   cases findX (l ++ d) p with
   | some y => rfl
   | none => exact h'
def A3 (sc : XS) (ms : List XM) (al : List XA) : Prop := mapX (attrX sc) (othersX ms) = some al ∧ uniqX al = true
theorem A3.nil (sc : XS) : A3 sc [] [] := ⟨rfl, by decide⟩
theorem A3.skip {sc : XS} {ms : List XM} {al : List XA} {k : Nat} {p : Bt} (hk : k < ms.length) (h : declX ms[k] = some p) (g : A3 sc (ms.take k) al) : A3 sc (ms.take (k + 1)) al := by
 have e := others_take hk
 rw [h] at e
 simp only [Option.isNone_some, Bool.false_eq_true, if_false, List.append_nil] at e
 unfold A3
 rw [e]
 exact g
theorem A3.step {sc : XS} {ms : List XM} {al : List XA} {a : XA} {k : Nat} (hk : k < ms.length) (h : declX ms[k] = none) (ha : attrX sc ms[k] = some a) (hd : ∀ j (hj : j < al.length), ¬ ((al[j].1 = a.1) ∧ al[j].2.1 = a.2.1)) (g : A3 sc (ms.take k) al) : A3 sc (ms.take (k + 1)) (al ++ [a]) := by
 have e := others_take hk
 rw [h] at e
 simp only [Option.isNone_none, if_true] at e
 unfold A3
 rw [e, mapX_snoc, g.1]
 refine ⟨by simp only [ha, Option.map_some], ?_⟩
 rw [uniq_snoc, g.2, Bool.true_and, Bool.not_eq_true', decide_eq_false_iff_not]
 intro hm
 obtain ⟨b, hb, he⟩ := List.mem_map.1 hm
 obtain ⟨j, hj, rfl⟩ := List.getElem_of_mem hb
 injection he with h1 h2
 exact hd j hj ⟨h1, h2⟩
theorem mapX_left {α β : Type} {f : α → Option β} : ∀ (a b : List α), mapX f a = none → mapX f (a ++ b) = none
 | [], b, h => by cases h
 | x :: a, b, h => by
  show (match f x with | none => none | some y => (mapX f (a ++ b)).map (y :: ·)) = none
  have h' : (match f x with | none => none | some y => (mapX f a).map (y :: ·)) = none := h
  cases hx : f x with
  | none => rfl
  | some y =>
   rw [hx] at h'
   simp only at h' ⊢
   cases ha : mapX f a with
   | none => rw [mapX_left a b ha]; rfl
   | some z => rw [ha] at h'; cases h'
theorem mapX_split {α β : Type} {f : α → Option β} : ∀ (a b : List α) {r r1 : List β}, mapX f a = some r1 → mapX f (a ++ b) = some r → ∃ r2, r = r1 ++ r2
 | [], b, r, r1, h, h2 => by
  injection h with h
  subst h
  exact ⟨r, rfl⟩
 | x :: a, b, r, r1, h, h2 => by
  have h' : (match f x with | none => none | some y => (mapX f a).map (y :: ·)) = some r1 := h
  have h2' : (match f x with | none => none | some y => (mapX f (a ++ b)).map (y :: ·)) = some r := h2
  cases hx : f x with
  | none => rw [hx] at h'; cases h'
  | some y =>
   rw [hx] at h' h2'
   simp only at h' h2'
   cases ha : mapX f a with
   | none => rw [ha] at h'; cases h'
   | some z =>
    cases hab : mapX f (a ++ b) with
    | none => rw [hab] at h2'; cases h2'
    | some u =>
     rw [ha] at h'
     rw [hab] at h2'
     injection h' with h'
     injection h2' with h2'
     obtain ⟨r2, hr⟩ := mapX_split a b ha hab
     exact ⟨r2, by rw [← h', ← h2', hr]; rfl⟩
theorem others_split (ms : List XM) (k : Nat) : othersX ms = othersX (ms.take k) ++ othersX (ms.drop k) := by
 unfold othersX
 rw [← List.filter_append, List.take_append_drop]
theorem start_attr_none {sc : XS} {nm : XN} {ms : List XM} {al : List XA} {k : Nat} (hk : k < ms.length) (gs : scopeX sc ms = some (sc ++ declsX ms)) (h : declX ms[k] = none) (ha : attrX (sc ++ declsX ms) ms[k] = none) (g : A3 (sc ++ declsX ms) (ms.take k) al) : startX sc nm ms = none := by
 have e := others_take hk
 rw [h] at e
 simp only [Option.isNone_none, if_true] at e
 have h1 : mapX (attrX (sc ++ declsX ms)) (othersX (ms.take (k + 1))) = none := by
  rw [e, mapX_snoc, g.1]
  simp only [ha, Option.map_none]
 have h2 : mapX (attrX (sc ++ declsX ms)) (othersX ms) = none := by
  rw [others_split ms (k + 1)]
  exact mapX_left _ _ h1
 unfold startX
 rw [gs]
 simp only
 cases findX (sc ++ declsX ms) nm.1 with
 | none => rfl
 | some sp =>
  simp only
  rw [h2]
theorem uniq_left {a b : List XA} (h : uniqX a = false) : uniqX (a ++ b) = false := uniq_pre (k := a.length) (by rw [List.take_left]; exact h)
theorem start_attr_dup {sc : XS} {nm : XN} {ms : List XM} {al : List XA} {a : XA} {j k : Nat} (hk : k < ms.length) (gs : scopeX sc ms = some (sc ++ declsX ms)) (h : declX ms[k] = none) (ha : attrX (sc ++ declsX ms) ms[k] = some a) (g : A3 (sc ++ declsX ms) (ms.take k) al) (hj : j < al.length) (he : al[j].1 = a.1 ∧ al[j].2.1 = a.2.1) : startX sc nm ms = none := by
 have e := others_take hk
 rw [h] at e
 simp only [Option.isNone_none, if_true] at e
 have h1 : mapX (attrX (sc ++ declsX ms)) (othersX (ms.take (k + 1))) = some (al ++ [a]) := by
  rw [e, mapX_snoc, g.1]
  simp only [ha, Option.map_some]
 have hu : uniqX (al ++ [a]) = false := by
  rw [uniq_snoc, Bool.and_eq_false_iff]
  right
  rw [Bool.not_eq_false', decide_eq_true_eq]
  exact List.mem_map.2 ⟨al[j], List.getElem_mem hj, by rw [he.1, he.2]⟩
 unfold startX
 rw [gs]
 simp only
 cases findX (sc ++ declsX ms) nm.1 with
 | none => rfl
 | some sp =>
  simp only
  cases hm : mapX (attrX (sc ++ declsX ms)) (othersX ms) with
  | none => rfl
  | some l =>
   simp only
   rw [others_split ms (k + 1)] at hm
   obtain ⟨r2, hr⟩ := mapX_split _ _ h1 hm
   rw [hr, uniq_left hu, if_neg Bool.false_ne_true]
theorem start_find_none {sc : XS} {nm : XN} {ms : List XM} (gs : scopeX sc ms = some (sc ++ declsX ms)) (h : findX (sc ++ declsX ms) nm.1 = none) : startX sc nm ms = none := by
 unfold startX
 rw [gs]
 simp only
 rw [h]
theorem start_end {sc : XS} {nm : XN} {ms : List XM} {al : List XA} {sp : Bt} (gs : scopeX sc ms = some (sc ++ declsX ms)) (h : findX (sc ++ declsX ms) nm.1 = some sp) (g : A3 (sc ++ declsX ms) ms al) : startX sc nm ms = some (.mk sp nm.2 al [] [], sc ++ declsX ms) := by
 unfold startX
 rw [gs]
 simp only
 rw [h]
 simp only
 rw [g.1]
 simp only
 rw [g.2, if_pos rfl]
end Go.Proofs.YtklcjimmbkpbdaaGreatDoor
