/-
  Of the proofs of layer 8 (elements of XML): the parts XB XC XD XE XF XG XH. No conditions.
-/
import Derived.Test.YtklcjimmbkpbdaaGreatDoorZ12
import Derived.Lib.SplitLaws
namespace Go.Proofs.YtklcjimmbkpbdaaGreatDoor
open Go.RowKit
open Go.Lib
def ML (w : World) : Prop := ∃ m : Int, w.cell? ⟨0, 0, none⟩ = some (.int .i64 m)
theorem ML.off {F : Nat → Prop} {w w' : World} (h : ML w) (ho : Off F w w') (hF : ¬ F 0) : ML w' := by
 obtain ⟨m, hm⟩ := h
 exact ⟨m, ho.cell hm hF⟩
theorem ML.below {w w' : World} (h : ML w) (hb : Below w.heap.size w w') : ML w' := h.off (Off.of_below hb) (fun h => h)
theorem ML.lt {w : World} (h : ML w) : 0 < w.heap.size := by
 obtain ⟨m, hm⟩ := h
 exact World.block_lt_of_cell? w ⟨0, 0, none⟩ hm
theorem to_index {sep : Bt} (hs : sep ≠ []) : ∀ s : Bt, (Lib.index s sep = -1 ∧ toL sep s = none) ∨ (∃ i : Nat, Lib.index s sep = i ∧ toL sep s = some (s.take i, s.drop (i + sep.length)))
 | [] => by
  left
  constructor
  ·unfold Lib.index
   cases sep with
   | nil => exact absurd rfl hs
   | cons _ _ => rfl
  ·rfl
 | c :: s => by
  unfold Lib.index toL
  by_cases h : sep.isPrefixOf (c :: s) = true
  ·right
   refine ⟨0, by rw [if_pos h]; rfl, ?_⟩
   rw [if_pos h, List.take_zero, Nat.zero_add]
  ·rw [if_neg h, if_neg h]
   rcases to_index hs s with ⟨h1, h2⟩ | ⟨i, h1, h2⟩
   ·left
    rw [h1, h2]
    exact ⟨rfl, rfl⟩
   ·right
    refine ⟨i + 1, ?_, ?_⟩
    ·rw [h1, if_neg (by rw [beq_iff_eq]; omega)]
     omega
    ·rw [h2, Option.map_some, List.take_succ_cons, show i + 1 + sep.length = (i + sep.length) + 1 by omega, List.drop_succ_cons]
theorem cut_to {sep : Bt} (hs : sep ≠ []) (s : Bt) : Lib.cut s sep = match toL sep s with | some (a, r) => (a, r, true) | none => (s, [], false) := by
 unfold Lib.cut
 rcases to_index hs s with ⟨h1, h2⟩ | ⟨i, h1, h2⟩
 ·rw [h1, h2, if_neg (by decide)]
 ·rw [h1, h2, if_pos (by omega)]
  rfl
theorem contains_to {sep : Bt} (hs : sep ≠ []) (s : Bt) : Lib.contains s sep = (toL sep s).isSome := by
 unfold Lib.contains
 rcases to_index hs s with ⟨h1, h2⟩ | ⟨i, h1, h2⟩
 ·rw [h1, h2]; rfl
 ·rw [h1, h2, decide_eq_true (by omega)]; rfl
def CutL (sep s : Bt) (w : World) (e : Ending) (w' : World) : Prop := e = .returned (match toL sep s with | some (a, r) => .tuple #[.string (bs a), .string (bs r), .bool true] | none => .tuple #[.string (bs s), .string (bs []), .bool false]) ∧ Below w.heap.size w w'
theorem cutL_any (sep s : Bt) (hs : sep ≠ []) (hl : s.length ≤ 4000000000) (w : World) (hm : ML w) : Calls Tryz.prog 119 #[.string (bs s), .string (bs sep)] w (CutL sep s w) := by
 obtain ⟨m, hm⟩ := hm
 refine (libCut (bs s) (bs sep) m w (by rw [bs_size]; omega) hm).mono ?_
 rintro e w' ⟨rfl, n, rfl⟩
 refine ⟨?_, below_drewN (Below.refl _ _) n⟩
 rw [bs_list, bs_list, cut_to hs]
 cases toL sep s with
 | none => rfl
 | some x => rfl
theorem cutL_yes {sep s a r : Bt} (h : toL sep s = some (a, r)) (hs : sep ≠ []) (hl : s.length ≤ 4000000000) (w : World) (hm : ML w) : Calls Tryz.prog 119 #[.string (bs s), .string (bs sep)] w (fun e w' => e = .returned (.tuple #[.string (bs a), .string (bs r), .bool true]) ∧ Below w.heap.size w w') := by
 have := cutL_any sep s hs hl w hm
 unfold CutL at this
 rw [h] at this
 exact this
theorem cutL_no {sep s : Bt} (h : toL sep s = none) (hs : sep ≠ []) (hl : s.length ≤ 4000000000) (w : World) (hm : ML w) : Calls Tryz.prog 119 #[.string (bs s), .string (bs sep)] w (fun e w' => e = .returned (.tuple #[.string (bs s), .string (bs []), .bool false]) ∧ Below w.heap.size w w') := by
 have := cutL_any sep s hs hl w hm
 unfold CutL at this
 rw [h] at this
 exact this
theorem contL_any (sep s : Bt) (hs : sep ≠ []) (hl : s.length ≤ 4000000000) (w : World) (hm : ML w) : Calls Tryz.prog 90 #[.string (bs s), .string (bs sep)] w (fun e w' => e = .returned (.bool (toL sep s).isSome) ∧ w = w') := by
 obtain ⟨m, hm⟩ := hm
 refine (libContains (bs s) (bs sep) m w (by rw [bs_size]; omega) hm).mono ?_
 rintro e w' ⟨rfl, rfl⟩
 rw [bs_list, bs_list, contains_to hs]
 exact ⟨rfl, rfl⟩
theorem to_mem (c : UInt8) : ∀ s : Bt, (toL [c] s).isSome = decide (c ∈ s)
 | [] => rfl
 | d :: s => by
  unfold toL
  by_cases h : c = d
  ·subst h
   rw [if_pos (by simp [List.isPrefixOf]), decide_eq_true List.mem_cons_self]
   rfl
  ·rw [if_neg (by simp [List.isPrefixOf, h]), Option.isSome_map, to_mem c s]
   congr 1
   simp [h]
def replN (old new : Bt) : Nat → Bt → Bt
 | 0, s => s
 | n + 1, s => match toL old s with
  | none => s
  | some (a, r) => a ++ new ++ replN old new n r
theorem repl_count {old : Bt} (new : Bt) (ho : old ≠ []) : ∀ (n : Nat) (s : Bt), Lib.replaceK old new (Lib.countFrom old n s) s = replN old new n s
 | 0, s => rfl
 | n + 1, s => by
  unfold Lib.countFrom replN
  rcases to_index ho s with ⟨h1, h2⟩ | ⟨i, h1, h2⟩
  ·rw [h1, h2, if_pos (by decide)]
   rfl
  ·rw [h2, if_neg (by rw [h1, beq_iff_eq]; omega), Nat.add_comm 1, Lib.replaceK_hit old new _ s i h1]
   simp only
   rw [show (Lib.index s old).toNat = i by rw [h1]; rfl, repl_count new ho n]
theorem repl_fuel {old : Bt} (new : Bt) (ho : old ≠ []) : ∀ (n m : Nat) (s : Bt), s.length < n → s.length < m → replN old new n s = replN old new m s
 | 0, _, s, h, _ => absurd h (Nat.not_lt_zero _)
 | _ + 1, 0, s, _, h => absurd h (Nat.not_lt_zero _)
 | n + 1, m + 1, s, h1, h2 => by
  unfold replN
  cases ht : toL old s with
  | none => rfl
  | some x =>
   obtain ⟨a, r⟩ := x
   have := to_len ht
   have hp : 0 < old.length := List.length_pos_iff.2 ho
   simp only
   rw [repl_fuel new ho n m r (by omega) (by omega)]
def replL (old new s : Bt) : Bt := replN old new (s.length + 1) s
theorem repl_all {old new : Bt} (ho : old ≠ []) (hne : old ≠ new) (s : Bt) : Lib.replaceAll s old new = replL old new s := by
 unfold Lib.replaceAll Lib.replace
 rw [if_neg (by rw [beq_iff_eq]; exact hne)]
 have : Lib.replaceNum s old (-1) = Lib.countFrom old (s.length + 1) s := by
  unfold Lib.replaceNum
  rw [if_pos (.inl (by decide))]
  rfl
 rw [this, repl_count new ho]
 rfl
theorem repl_nil (old new : Bt) : replL old new [] = [] := rfl
theorem repl_cons {old new : Bt} (ho : old ≠ []) (c : UInt8) (s : Bt) : replL old new (c :: s) = if old.isPrefixOf (c :: s) = true then new ++ replL old new ((c :: s).drop old.length) else c :: replL old new s := by
 have hp : 0 < old.length := List.length_pos_iff.2 ho
 unfold replL
 rw [List.length_cons, replN, toL]
 by_cases h : old.isPrefixOf (c :: s) = true
 ·rw [if_pos h, if_pos h]
  simp only [List.nil_append]
  rw [repl_fuel new ho (s.length + 1) (((c :: s).drop old.length).length + 1) _ (by rw [List.length_drop, List.length_cons]; omega) (Nat.lt_succ_self _)]
 ·rw [if_neg h, if_neg h]
  conv => rhs; rw [replN]
  cases ht : toL old s with
  | none => rfl
  | some x =>
   obtain ⟨a, r⟩ := x
   have := to_len ht
   simp only [Option.map_some, List.cons_append]
   rw [repl_fuel new ho (s.length + 1) s.length r (by omega) (by omega)]
theorem repl_one (k : UInt8) (new : Bt) : ∀ s : Bt, replL [k] new s = s.flatMap fun c => if c = k then new else [c]
 | [] => rfl
 | c :: s => by
  rw [repl_cons (List.cons_ne_nil _ _), List.flatMap_cons, ← repl_one k new s]
  by_cases h : c = k
  ·subst h
   rw [if_pos (by simp [List.isPrefixOf]), if_pos rfl]
   rfl
  ·rw [if_neg (by simp [List.isPrefixOf, Ne.symm h]), if_neg h]
   rfl
theorem lines_repl : ∀ (n : Nat) (s : Bt), s.length ≤ n → replL [13] [10] (replL [13, 10] [10] s) = linesL s
 | _, [], _ => rfl
 | 0, c :: s, h => absurd h (by simp)
 | n + 1, c :: s, h => by
  simp only [List.length_cons] at h
  rw [repl_cons (List.cons_ne_nil _ _), linesL]
  by_cases h13 : c = 13
  ·subst h13
   rw [if_pos rfl]
   cases s with
   | nil =>
    rw [if_neg (by decide)]
    decide
   | cons d s =>
    by_cases h10 : d = 10
    ·subst h10
     rw [if_pos (by simp [List.isPrefixOf]), if_pos (show (10 :: s : Bt).head? = some 10 from rfl)]
     show replL [13] [10] (10 :: replL [13, 10] [10] s) = linesL (10 :: s)
     rw [repl_cons (List.cons_ne_nil _ _), if_neg (by simp [List.isPrefixOf]), linesL, if_neg (by decide), lines_repl n s (by simp only [List.length_cons] at h; omega)]
    ·rw [if_neg (by simp [List.isPrefixOf, Ne.symm h10]), if_neg (by simpa using h10), repl_cons (List.cons_ne_nil _ _), if_pos (by simp [List.isPrefixOf])]
     show 10 :: replL [13] [10] (replL [13, 10] [10] (d :: s)) = _
     rw [lines_repl n (d :: s) (by omega)]
  ·rw [if_neg (by simp [List.isPrefixOf, Ne.symm h13]), if_neg h13, repl_cons (List.cons_ne_nil _ _), if_neg (by simp [List.isPrefixOf, Ne.symm h13]), lines_repl n s (by omega)]
theorem attr_repl (s : Bt) : replL [9] [38, 35, 57, 59] (replL [10] [38, 35, 49, 48, 59] s) = attrV s := by
 rw [repl_one, repl_one]
 induction s with
 | nil => rfl
 | cons c s ih =>
  rw [List.flatMap_cons, List.flatMap_append, ih]
  unfold attrV
  rw [List.flatMap_cons]
  congr 1
  unfold attrC
  by_cases h10 : c = 10
  ·rw [if_pos h10, if_pos h10]
   decide
  ·rw [if_neg h10, if_neg h10]
   simp
theorem repl_len {old new : Bt} (ho : old ≠ []) : ∀ (n : Nat) (s : Bt), s.length ≤ n → (replL old new s).length ≤ s.length * (new.length + 1)
 | _, [], _ => by rw [repl_nil]; simp
 | 0, c :: s, h => absurd h (by simp)
 | n + 1, c :: s, h => by
  have hp : 0 < old.length := List.length_pos_iff.2 ho
  simp only [List.length_cons] at h
  rw [repl_cons ho, List.length_cons, Nat.add_mul, Nat.one_mul]
  split
  ·have := repl_len (new := new) ho n ((c :: s).drop old.length) (by rw [List.length_drop, List.length_cons]; omega)
   rw [List.length_append]
   have h2 : ((c :: s).drop old.length).length ≤ s.length := by rw [List.length_drop, List.length_cons]; omega
   have h3 := Nat.mul_le_mul_right (new.length + 1) h2
   omega
  ·have := repl_len (new := new) ho n s (by omega)
   rw [List.length_cons]
   omega
theorem lines_len : ∀ (n : Nat) (s : Bt), s.length ≤ n → (linesL s).length ≤ s.length
 | _, [], _ => Nat.le_refl _
 | 0, c :: s, h => absurd h (by simp)
 | n + 1, c :: s, h => by
  simp only [List.length_cons] at h
  have := lines_len n s (by omega)
  rw [linesL]
  repeat' split
  all_goals simp only [List.length_cons]; omega
theorem count_le (old : Bt) (ho : old ≠ []) (s : Bt) : Lib.countB (bs s) (bs old) ≤ s.length := by
 have h1 : 1 ≤ (bs old).size := by rw [bs_size]; exact List.length_pos_iff.2 ho
 have := Lib.countB_mul_le (bs old) h1 (bs s).size (bs s) (Nat.le_refl _)
 rw [bs_size s] at this
 calc Lib.countB (bs s) (bs old) = Lib.countB (bs s) (bs old) * 1 := (Nat.mul_one _).symm
  _ ≤ Lib.countB (bs s) (bs old) * (bs old).size := Nat.mul_le_mul_left _ h1
  _ ≤ s.length := this
theorem repl_any (old new s : Bt) (ho : old ≠ []) (hne : old ≠ new) (hn : new.length ≤ 10) (hs : s.length ≤ 1000000000) (w : World) (hm : ML w) :
    Calls Tryz.prog 95 #[.string (bs s), .string (bs old), .string (bs new)] w (fun e w' => e = .returned (.string (bs (replL old new s))) ∧ Below w.heap.size w w') := by
 obtain ⟨m, hm⟩ := hm
 have hc := count_le old ho s
 have hmul := Nat.mul_le_mul hc hn
 refine (libReplaceAll (bs s) (bs old) (bs new) m w (by rw [bs_size]; omega) hm (by rw [bs_size]; exact List.length_pos_iff.2 ho) (by rw [bs_size, bs_size]; omega)).mono ?_
 rintro e w' ⟨rfl, hb⟩
 rw [bs_list, bs_list, bs_list, repl_all ho hne]
 exact ⟨rfl, hb⟩
set_option maxRecDepth 100000 in
theorem lines_any (s : Bt) (hs : s.length ≤ 10000000) (w : World) (hm : ML w) : Calls Tryz.prog 140 #[.string (bs s)] w (fun e w' => e = .returned (.string (bs (linesL s))) ∧ Below w.heap.size w w') := by
 have h1 : ∀ W, ML W → Calls Tryz.prog 95 #[.string (bs s), .string ⟨#[13, 10]⟩, .string ⟨#[10]⟩] W (fun e w' => e = .returned (.string (bs (replL [13, 10] [10] s))) ∧ Below W.heap.size W w') := fun W hW => repl_any [13, 10] [10] s (by decide) (by decide) (by decide) (by omega) W hW
 have hl := repl_len (old := [13, 10]) (new := [10]) (by decide) _ s (Nat.le_refl _)
 simp only [List.length_cons, List.length_nil] at hl
 have h2 : ∀ W, ML W → Calls Tryz.prog 95 #[.string (bs (replL [13, 10] [10] s)), .string ⟨#[13]⟩, .string ⟨#[10]⟩] W (fun e w' => e = .returned (.string (bs (linesL s))) ∧ Below W.heap.size W w') := fun W hW => by
  have := repl_any [13] [10] (replL [13, 10] [10] s) (by decide) (by decide) (by decide) (by omega) W hW
  rw [lines_repl _ s (Nat.le_refl _)] at this
  exact this
 generalize replL [13, 10] [10] s = t at *
 have H1 := hid h1
 have H2 := hid h2
 have HM := hid hm
 clear h1 h2 hl hm
 go_enter Tryz.func140, Tryz.ntmps140
 go_wp2_with fail
 refine (H1.out _ HM.out).mono ?_
 rintro e w1 ⟨rfl, b1⟩
 go_wp2_with fail
 refine (H2.out _ (HM.out.below b1)).mono ?_
 rintro e w2 ⟨rfl, b2⟩
 go_wp2
 go_ret
 exact ⟨rfl, b1.trans (b2.mono b1.size)⟩
set_option maxRecDepth 100000 in
theorem isPlain_any (s : Bt) (hs : s.length ≤ 1000000) (w : World) : Calls Tryz.prog 28 #[.string (bs s)] w (fun e w' => e = .returned (.bool (plainB s)) ∧ Below w.heap.size w w') := by
 have h1 := plain_any (bs s) w (by rw [bs_size]; exact hs)
 rw [bs_list] at h1
 have HE : Hid (plainB s = ((bs (enc ((pts s).filter inXml))).toList == (bs s).toList)) := hid (by rw [bs_toList, bs_toList]; rfl)
 have h1 : Calls Tryz.prog 50 #[.string (bs s)] w (fun e w' => e = .returned (.string (bs (enc ((pts s).filter inXml)))) ∧ Below w.heap.size w w') := h1
 generalize bs (enc ((pts s).filter inXml)) = S1 at *
 generalize bs s = S2 at *
 have H1 := hid h1
 clear h1
 go_enter Tryz.func28, Tryz.ntmps28
 go_wp2_with (go_at_call 50; (with_reducible refine H1.out.mono ?_); rintro e w1 ⟨rfl, b1⟩)
 go_ret
 refine ⟨ret_b6 ?_, b1⟩
 rw [HE.out]
theorem unh_ne (c : UInt8) (r : Bt) : unh (c :: r) ≠ [] := by
 rw [unh_cons]
 split
 ·split
  ·exact List.cons_ne_nil _ _
  ·exact encodeRune_ne _ _
 ·exact List.cons_ne_nil _ _
theorem pts_cons_len (c : UInt8) (r : Bt) : (pts (c :: r)).length = (pts ((c :: r).drop (decodeL (c :: r)).2)).length + 1 := by
 rw [pts_cons _ (List.cons_ne_nil _ _), List.length_cons]
def refOk (l : Bt) : Bool := (pts (unh l)).length == 1 && plainB (unh l)
theorem refx_name (nm : Bt) (h : (59 : UInt8) ∉ nm) : (nameP nm = -1 ∧ refOk (38 :: (nm ++ [59])) = false) ∨
    (nameP nm ≠ -1 ∧ refOk (38 :: (nm ++ [59])) = inXml (nameP nm) ∧ unh (38 :: (nm ++ [59])) = encodeRune (nameP nm)) := by
 have hq : refQ (nm ++ [59]) = _ := refQ_name nm [] h
 by_cases hp : nameP nm = -1
 ·left
  refine ⟨hp, ?_⟩
  rw [if_pos hp] at hq
  unfold refOk
  rw [unh_amp _ (by rw [hq]; decide)]
  have h1 : ((pts (38 :: unh (nm ++ [59]))).length == 1) = false := by
   rw [beq_eq_false_iff_ne, pts_cons_len]
   have hd : decodeL (38 :: unh (nm ++ [59])) = (38, 1) := decode_enc 38 (by decide) (unh (nm ++ [59]))
   rw [hd, List.drop_succ_cons, List.drop_zero]
   cases hu : unh (nm ++ [59]) with
   | nil =>
    exfalso
    cases nm with
    | nil => exact unh_ne 59 [] hu
    | cons c r => exact unh_ne c (r ++ [59]) (by rw [← List.cons_append]; exact hu)
   | cons c r => rw [pts_cons_len]; omega
  rw [h1]
  rfl
 ·right
  rw [if_neg hp] at hq
  have hpt : isPt (nameP nm) = true := by
   rcases refQ_ok (nm ++ [59]) with e | ⟨e, _⟩
   ·rw [hq] at e
    injection e with e _
    exact absurd e hp
   ·rw [hq] at e
    exact e
  have h0 := ((isPt_iff _).1 hpt).1
  have hu : unh (38 :: (nm ++ [59])) = encodeRune (nameP nm) := by
   rw [unh_ref _ (by rw [hq]; simp only; omega), hq]
   simp only
   rw [show nm.length + 2 - 1 = (nm ++ [59]).length by simp, List.drop_length, unh_nil, List.append_nil]
  refine ⟨hp, ?_, hu⟩
  have hall : AllPt [nameP nm] := fun q hq => by rw [List.mem_singleton] at hq; rw [hq]; exact hpt
  have he : encodeRune (nameP nm) = enc [nameP nm] := by simp [enc]
  unfold refOk plainB
  rw [hu, he, pts_enc' _ hall]
  cases hx : inXml (nameP nm) with
  | true => simp [hx]
  | false =>
   simp only [List.filter_cons, hx, List.filter_nil]
   have : (enc ([] : List Int) == enc [nameP nm]) = false := by
    rw [beq_eq_false_iff_ne]
    intro e
    exact enc_ne (List.cons_ne_nil _ _) e.symm
   simpa using this
def RefX (l : Bt) (w : World) (e : Ending) (w' : World) : Prop := e = .returned (.tuple #[.string (bs (unh l)), .bool (refOk l)]) ∧ Below w.heap.size w w'
theorem unh_len : ∀ (n : Nat) (l : Bt), l.length ≤ n → (unh l).length ≤ 4 * l.length
 | _, [], _ => Nat.le_refl _
 | 0, c :: l, h => absurd h (by simp)
 | n + 1, c :: r, h => by
  simp only [List.length_cons] at h
  have h1 := unh_len n r (by omega)
  rw [unh_cons, List.length_cons]
  split
  ·split
   ·rw [List.length_cons]; omega
   ·have h2 := unh_len n (r.drop ((refQ r).2 - 1)) (by rw [List.length_drop]; omega)
    have h3 := (encodeRune_length (refQ r).1).2
    rw [List.length_drop] at h2
    rw [List.length_append]
    omega
  ·rw [List.length_cons]; omega
set_option maxRecDepth 100000 in
theorem refx_any (l : Bt) (hl : l.length ≤ 200000) (w : World) : Calls Tryz.prog 152 #[.string (bs l)] w (RefX l w) := by
 have hu := unh_len _ l (Nat.le_refl _)
 have h1 : ∀ W : World, Calls Tryz.prog 157 #[.string (bs l)] W (fun e w' => e = .returned (.string (bs (unh l))) ∧ Below W.heap.size W w') := fun W => by
  have := unhtml_any (bs l) W (by rw [bs_size]; omega)
  rw [bs_list] at this
  exact this
 have h2 : ∀ W : World, Calls Tryz.prog 158 #[.string (bs (unh l))] W (OutI W (pts (unh l))) := fun W => by
  have := upoints_any (bs (unh l)) W (by rw [bs_size]; omega)
  rw [bs_list] at this
  exact this
 have h3 : ∀ W : World, Calls Tryz.prog 28 #[.string (bs (unh l))] W (fun e w' => e = .returned (.bool (plainB (unh l))) ∧ Below W.heap.size W w') := fun W => isPlain_any (unh l) (by omega) W
 have HR : Hid (refOk l = ((pts (unh l)).length == 1 && plainB (unh l))) := hid rfl
 have hpl : (pts (unh l)).length ≤ 1000000 := by have := pts_length_le (unh l); omega
 have H1 := hid h1
 have H2 := hid h2
 have H3 := hid h3
 unfold RefX
 generalize refOk l = ok at *
 generalize plainB (unh l) = pb at *
 generalize pts (unh l) = zs at *
 generalize bs (unh l) = U at *
 generalize bs l = S at *
 obtain ⟨n, hn⟩ : ∃ n, zs.length = n := ⟨_, rfl⟩
 rw [hn] at HR hpl
 have HN := hid hn
 clear h1 h2 h3 hu hn
 by_cases hone : n = 1
 ·subst hone
  have HO : Hid (ok = pb) := hid (by rw [HR.out]; rfl)
  go_enter Tryz.func152, Tryz.ntmps152
  go_wp2_with fail
  refine (H1.out _).mono ?_
  rintro e w1 ⟨rfl, b1⟩
  go_wp2_with fail
  refine (H2.out _).mono ?_
  rintro e w2 ⟨A, c, rfl, _, _, b2⟩
  rw [HN.out]
  go_wp2_with fail
  refine (H3.out _).mono ?_
  rintro e w3 ⟨rfl, b3⟩
  go_wp2
  go_ret2
  refine ⟨?_, (b1.trans (b2.mono b1.size)).trans (b3.mono (Nat.le_trans b1.size b2.size))⟩
  rw [HO.out]
  rfl
 ·have HO : Hid (ok = false) := hid (by rw [HR.out, beq_eq_false_iff_ne.2 hone]; rfl)
  have hd : ((n : Int) == 1) = false := beq_eq_false_iff_ne.2 (by omega)
  go_enter Tryz.func152, Tryz.ntmps152
  go_wp2_with fail
  refine (H1.out _).mono ?_
  rintro e w1 ⟨rfl, b1⟩
  go_wp2_with fail
  refine (H2.out _).mono ?_
  rintro e w2 ⟨A, c, rfl, _, _, b2⟩
  rw [HN.out]
  go_wp2
  go_ret2
  refine ⟨?_, b1.trans (b2.mono b1.size)⟩
  rw [HO.out]
  rfl
theorem to_split {c : UInt8} : ∀ {s a r : Bt}, toL [c] s = some (a, r) → s = a ++ c :: r ∧ c ∉ a
 | [], a, r, h => by cases h
 | d :: s, a, r, h => by
  rw [toL] at h
  by_cases hc : c = d
  ·subst hc
   rw [if_pos (by simp [List.isPrefixOf])] at h
   injection h with h
   injection h with h1 h2
   subst h1; subst h2
   exact ⟨rfl, List.not_mem_nil⟩
  ·rw [if_neg (by simp [List.isPrefixOf, hc])] at h
   cases ht : toL [c] s with
   | none => rw [ht] at h; cases h
   | some x =>
    obtain ⟨a', r'⟩ := x
    rw [ht] at h
    injection h with h
    injection h with h1 h2
    obtain ⟨i1, i2⟩ := to_split ht
    simp only at h1 h2
    subst h1; subst h2
    refine ⟨by rw [i1]; rfl, ?_⟩
    intro hm
    rcases List.mem_cons.1 hm with e | e
    ·exact hc e
    ·exact i2 e
theorem to_miss {c : UInt8} {s : Bt} (h : toL [c] s = none) : c ∉ s := by
 have := to_mem c s
 rw [h] at this
 simpa using this.symm
def UnwOut (o : Option Bt) (w : World) (e : Ending) (w' : World) : Prop := e = .returned (.tuple #[.string (bs (o.getD [])), .bool o.isSome]) ∧ Below w.heap.size w w'
theorem UnwOut.bad {o : Option Bt} {w w' : World} (h : o = none) (hb : Below w.heap.size w w') : UnwOut o w (.returned (.tuple #[.string ⟨#[]⟩, .bool false])) w' := by subst h; exact ⟨rfl, hb⟩
theorem UnwOut.good {o : Option Bt} {l : Bt} {w w' : World} (h : o = some l) (hb : Below w.heap.size w w') : UnwOut o w (.returned (.tuple #[.string (bs l), .bool true])) w' := by subst h; exact ⟨rfl, hb⟩
theorem map_app8 (o : Option Bt) (a b : Bt) : (o.map (b ++ ·)).map (a ++ ·) = o.map ((a ++ b) ++ ·) := by
 cases o with
 | none => rfl
 | some x => simp
def strL (v : Value) : Nat := match v with | .string r => r.size | _ => 0
theorem cells_bs (a s : Bt) : byteCells a ++ Lib.strCells (bs s) = byteCells (a ++ s) := by rw [byteCells_str, bs_list]
set_option maxRecDepth 100000 in
set_option maxHeartbeats 2000000 in
theorem unwritten_any (s : Bt) (hs : s.length ≤ 100000) (w : World) (hm : ML w) : Calls Tryz.prog 139 #[.string (bs s)] w (UnwOut (refsL (linesL s)) w) := by
 have hll := lines_len _ s (Nat.le_refl _)
 have HL := hid (fun W (hW : ML W) => lines_any s (by omega) W hW)
 obtain ⟨t, ht⟩ : ∃ t, linesL s = t := ⟨_, rfl⟩
 rw [ht] at hll HL ⊢
 have htl : t.length ≤ 100000 := by omega
 have HM := hid hm
 clear ht hll hm
 go_enter Tryz.func139, Tryz.ntmps139
 go_wp2_with fail
 refine (HL.out _ (HM.out.below ((Below.refl _ _).alloc (Nat.le_refl _) _))).mono ?_
 rintro e w0 ⟨rfl, b0⟩
 have hI0 : Lib.IsBuilderF 69 5 w.heap.size w.heap.size (byteCells []) w0 := bf_below (Lib.IsBuilderF.of (Lib.fresh_isBuilder 69 5 w)) b0
 have hB0 : Below w.heap.size w w0 := ((Below.refl _ w).alloc (Nat.le_refl _) _).trans (b0.mono (by simp))
 have hz0 : w.heap.size < w0.heap.size := by have := b0.size; simp at this; omega
 go_wp2
 go_loopw [0] (fun v wr => ∃ (r acc : Bt), v = .string (bs r) ∧ r.length ≤ 100000 ∧ Lib.IsBuilderF 69 5 w.heap.size w.heap.size (byteCells acc) wr ∧ Below w.heap.size w wr ∧ w.heap.size < wr.heap.size ∧ acc.length + 4 * r.length ≤ 4000000 ∧ Hid ((refsL r).map (acc ++ ·) = refsL t)) (fun v _ => strL v)
 case atStart => exact ⟨t, [], rfl, htl, hI0, hB0, hz0, by simp; omega, hid (by simp)⟩
 case round =>
  clear hI0 hB0 hz0 b0
  obtain ⟨r, acc, rfl, hr, hI, hbw, hbsz, hal, hac⟩ := hrel
  have hML : ML wr := HM.out.below hbw
  cases hc : toL [38] r with
  | none =>
   have h1 := cutL_no hc (List.cons_ne_nil _ _) (by omega) wr hML
   have HE : Hid (refsL r = some r) := hid (by
    have := refs_pass [] r (to_miss hc)
    rw [List.append_nil, refsL_nil] at this
    simpa using this)
   clear hc
   go_wp2_with fail
   refine h1.mono ?_
   clear h1
   rintro e w1 ⟨rfl, b1⟩
   have hz1 := b1.size
   have hw := sbWrite w.heap.size w.heap.size _ (bs r) w1 (bf_below hI b1) (by rw [Lib.byteCells_length, bs_size]; omega) (by omega)
   rw [cells_bs] at hw
   go_wp2_with fail
   refine hw.mono ?_
   clear hw
   rintro e w2 ⟨rfl, h2, b2, k2⟩
   have hz2 := b2.size
   have hss := sbString w.heap.size w.heap.size (acc ++ r) w2 (Or.inr h2) (by omega)
   go_wp2_with fail
   refine hss.mono ?_
   clear hss
   rintro e w3 ⟨rfl, _, b3, _⟩
   go_wp2
   go_ret2
   exact UnwOut.good (by rw [← hac.out, HE.out]; rfl) (((hbw.trans (b1.mono (by omega))).trans b2).trans b3)
  | some x =>
   obtain ⟨a, b⟩ := x
   have h1 := cutL_yes hc (List.cons_ne_nil _ _) (by omega) wr hML
   obtain ⟨hsp, hna⟩ := to_split hc
   have hlen := to_len hc
   simp only [List.length_cons, List.length_nil] at hlen
   have HP : Hid (refsL r = (refsL (38 :: b)).map (a ++ ·)) := hid (by rw [hsp]; exact refs_pass _ a hna)
   clear hc hsp hna
   cases hc2 : toL [59] b with
   | none =>
    have HC2 := hid (fun W (hW : ML W) => cutL_no hc2 (List.cons_ne_nil _ _) (by omega) W hW)
    have HE : Hid (refsL (38 :: b) = none) := hid (refs_bad b (.inl (by rw [refQ_none b (fun hm => to_miss hc2 (List.mem_of_mem_take hm))])))
    have HX := hid (fun W => refx_any (38 :: (b ++ [59])) (by simp only [List.length_cons, List.length_append, List.length_nil]; omega) W)
    have hbz : (bs b).size ≤ 1000000 := by rw [bs_size]; omega
    have HS1 : Hid (bs (38 :: (b ++ [59])) = ⟨#[38]⟩ ++ bs b ++ ⟨#[59]⟩) := hid (by
     apply ByteArray.ext
     simp [bs])
    clear hc2
    go_wp2_with fail
    refine h1.mono ?_
    clear h1
    rintro e w1 ⟨rfl, b1⟩
    have hz1 := b1.size
    have hw := sbWrite w.heap.size w.heap.size _ (bs a) w1 (bf_below hI b1) (by rw [Lib.byteCells_length, bs_size]; omega) (by omega)
    rw [cells_bs] at hw
    go_wp2_with fail
    refine hw.mono ?_
    clear hw
    rintro e w2 ⟨rfl, h2, b2, k2⟩
    have hz2 := b2.size
    have hB2 : Below w.heap.size w w2 := (hbw.trans (b1.mono (by omega))).trans b2
    go_wp2_with fail
    refine (HC2.out _ (HM.out.below hB2)).mono ?_
    rintro e w3 ⟨rfl, b3⟩
    have hz3 := b3.size
    have hX3 := HX.out w3
    rw [HS1.out] at hX3
    go_wp2_with fail
    refine hX3.mono ?_
    rintro e w4 ⟨rfl, b4⟩
    go_wp2
    go_ret2
    exact UnwOut.bad (by rw [← hac.out, HP.out, HE.out]; rfl) ((hB2.trans (b3.mono (by omega))).trans (b4.mono (by omega)))
   | some y =>
    obtain ⟨nm, rest⟩ := y
    have HC2 := hid (fun W (hW : ML W) => cutL_yes hc2 (List.cons_ne_nil _ _) (by omega) W hW)
    obtain ⟨hsp, hnm⟩ := to_split hc2
    have hlen2 := to_len hc2
    simp only [List.length_cons, List.length_nil] at hlen2
    have HX := hid (fun W => refx_any (38 :: (nm ++ [59])) (by simp only [List.length_cons, List.length_append, List.length_nil]; omega) W)
    unfold RefX at HX
    have hbz : (bs nm).size ≤ 1000000 := by rw [bs_size]; omega
    have HS1 : Hid (bs (38 :: (nm ++ [59])) = ⟨#[38]⟩ ++ bs nm ++ ⟨#[59]⟩) := hid (by
     apply ByteArray.ext
     simp [bs])
    have hq := refQ_name nm rest hnm
    have hrn := refx_name nm hnm
    cases hok : refOk (38 :: (nm ++ [59])) with
    | false =>
     have HE : Hid (refsL (38 :: b) = none) := hid (by
      rw [hsp]
      refine refs_bad _ ?_
      rw [hq]
      by_cases hp : nameP nm = -1
      ·rw [if_pos hp]; exact .inl rfl
      ·rw [if_neg hp]
       rcases hrn with h | h
       ·exact absurd h.1 hp
       ·right
        rw [← h.2.1, hok])
     rw [hok] at HX
     clear hc2 hsp hnm hq hrn hok
     go_wp2_with fail
     refine h1.mono ?_
     clear h1
     rintro e w1 ⟨rfl, b1⟩
     have hz1 := b1.size
     have hw := sbWrite w.heap.size w.heap.size _ (bs a) w1 (bf_below hI b1) (by rw [Lib.byteCells_length, bs_size]; omega) (by omega)
     rw [cells_bs] at hw
     go_wp2_with fail
     refine hw.mono ?_
     clear hw
     rintro e w2 ⟨rfl, h2, b2, k2⟩
     have hz2 := b2.size
     have hB2 : Below w.heap.size w w2 := (hbw.trans (b1.mono (by omega))).trans b2
     go_wp2_with fail
     refine (HC2.out _ (HM.out.below hB2)).mono ?_
     rintro e w3 ⟨rfl, b3⟩
     have hz3 := b3.size
     have hX3 := HX.out w3
     rw [HS1.out] at hX3
     go_wp2_with fail
     refine hX3.mono ?_
     rintro e w4 ⟨rfl, b4⟩
     go_wp2
     go_ret2
     exact UnwOut.bad (by rw [← hac.out, HP.out, HE.out]; rfl) ((hB2.trans (b3.mono (by omega))).trans (b4.mono (by omega)))
    | true =>
     obtain ⟨hp, hxx, huu⟩ : nameP nm ≠ -1 ∧ inXml (nameP nm) = true ∧ unh (38 :: (nm ++ [59])) = encodeRune (nameP nm) := by
      rcases hrn with h | h
      ·rw [hok] at h; cases h.2
      ·exact ⟨h.1, by rw [← h.2.1, hok], h.2.2⟩
     have HE : Hid (refsL (38 :: b) = (refsL rest).map (encodeRune (nameP nm) ++ ·)) := hid (by rw [hsp]; exact refs_name nm rest _ hnm rfl hp hxx)
     rw [hok, huu] at HX
     obtain ⟨tx, htx⟩ : ∃ tx, encodeRune (nameP nm) = tx := ⟨_, rfl⟩
     have htl4 : tx.length ≤ 4 := by rw [← htx]; exact (encodeRune_length _).2
     rw [htx] at HX HE
     have HA : Hid ((refsL rest).map ((acc ++ a ++ tx) ++ ·) = refsL t) := hid (by rw [← hac.out, HP.out, HE.out, map_app8, map_app8, List.append_assoc])
     clear hc2 hsp hnm hq hrn hok hp hxx huu htx HE HP hac
     go_wp2_with fail
     refine h1.mono ?_
     clear h1
     rintro e w1 ⟨rfl, b1⟩
     have hz1 := b1.size
     have hw := sbWrite w.heap.size w.heap.size _ (bs a) w1 (bf_below hI b1) (by rw [Lib.byteCells_length, bs_size]; omega) (by omega)
     rw [cells_bs] at hw
     go_wp2_with fail
     refine hw.mono ?_
     clear hw
     rintro e w2 ⟨rfl, h2, b2, k2⟩
     have hz2 := b2.size
     have hB2 : Below w.heap.size w w2 := (hbw.trans (b1.mono (by omega))).trans b2
     go_wp2_with fail
     refine (HC2.out _ (HM.out.below hB2)).mono ?_
     rintro e w3 ⟨rfl, b3⟩
     have hz3 := b3.size
     have hX3 := HX.out w3
     rw [HS1.out] at hX3
     go_wp2_with fail
     refine hX3.mono ?_
     clear hX3
     rintro e w4 ⟨rfl, b4⟩
     have hz4 := b4.size
     have hI4 : Lib.IsBuilderF 69 5 w.heap.size w.heap.size (byteCells (acc ++ a)) w4 := bf_below (bf_below (Or.inr h2) b3) b4
     have hw := sbWrite w.heap.size w.heap.size _ (bs tx) w4 hI4 (by rw [Lib.byteCells_length, bs_size, List.length_append]; omega) (by omega)
     rw [cells_bs] at hw
     go_wp2_with fail
     refine hw.mono ?_
     clear hw
     rintro e w5 ⟨rfl, h5, b5, k5⟩
     have hz5 := b5.size
     go_wp2
     go_roundw
     case rel => exact ⟨rest, acc ++ a ++ tx, rfl, by omega, Or.inr h5, ((hB2.trans (b3.mono (by omega))).trans (b4.mono (by omega))).trans b5, by omega, by rw [List.length_append, List.length_append]; omega, HA⟩
     case measure => show (bs rest).size < (bs r).size; rw [bs_size, bs_size]; omega
abbrev TRd : TypeId := 58
def RS (R : Nat) (s : Bt) (n : Nat) (sc : Value) (w : World) : Prop := Blk R (.cells #[.string (bs s), .int .i64 n, sc] TRd (0, 0)) w
section
variable {R : Nat} {s : Bt} {n : Nat} {sc : Value} {w w' : World}
theorem RS.c0 (h : RS R s n sc w) : w.cell? ⟨R, 0, none⟩ = some (.string (bs s)) := Blk.cell h 0
theorem RS.c1 (h : RS R s n sc w) : w.cell? ⟨R, 1, none⟩ = some (.int .i64 n) := Blk.cell h 1
theorem RS.c2 (h : RS R s n sc w) : w.cell? ⟨R, 2, none⟩ = some sc := Blk.cell h 2
theorem RS.free (h : RS R s n sc w) (j : Nat) : w.frozen? ⟨R, j, none⟩ = false := Blk.free h j
theorem RS.off {F : Nat → Prop} (h : RS R s n sc w) (ho : Off F w w') (hF : ¬ F R) : RS R s n sc w' := ho.blk h hF
theorem RS.below (h : RS R s n sc w) (hb : Below w.heap.size w w') : RS R s n sc w' := h.off (Off.of_below hb) (fun h => h)
theorem RS.set0 (h : RS R s n sc w) (s' : Bt) : RS R s' n sc (w.setCell ⟨R, 0, none⟩ (.string (bs s'))) := Blk.set h 0 (.string (bs s'))
theorem RS.set1 (h : RS R s n sc w) (n' : Nat) : RS R s n' sc (w.setCell ⟨R, 1, none⟩ (.int .i64 n')) := Blk.set h 1 (.int .i64 n')
theorem RS.set2 (h : RS R s n sc w) (sc' : Value) : RS R s n sc' (w.setCell ⟨R, 2, none⟩ sc') := Blk.set h 2 sc'
theorem RS.lt (h : RS R s n sc w) : R < w.heap.size := Blk.lt h
end
theorem off_set8 (w : World) (X j : Nat) (v : Value) : Off (fun k => k = X) w (w.setCell ⟨X, j, none⟩ v) := (Off.of_grown (grown_set w X j v)).mono (fun _ h => (Option.some.inj h).symm)
theorem Off.then {F : Nat → Prop} {a b c : World} (h : Off F a b) (k : Off F b c) : Off F a c := h.trans k (fun _ h => .inl h)
theorem Off.thenB {F : Nat → Prop} {a b c : World} (h : Off F a b) (k : Below b.heap.size b c) : Off F a c := h.trans (Off.of_below k) (fun _ h => h.elim)
theorem Off.ofB {F : Nat → Prop} {a b : World} (k : Below a.heap.size a b) : Off F a b := (Off.of_below k).mono (fun _ h => h.elim)
theorem ML.rd {R : Nat} {w w' : World} (h : ML w) (hR : 0 ≠ R) (ho : Off (fun b => b = R) w w') : ML w' := h.off ho (fun e => hR e)
theorem pre_lib (w s : Bt) : Lib.hasPrefix s w = (wordL w s).isSome ∧ Lib.trimPrefix s w = (wordL w s).getD s := by
 unfold Lib.trimPrefix Lib.hasPrefix wordL
 cases h : w.isPrefixOf s with
 | true => exact ⟨rfl, rfl⟩
 | false => exact ⟨rfl, rfl⟩
set_option maxRecDepth 100000 in
theorem take_any {R : Nat} {s : Bt} {n : Nat} {sc : Value} {w : World} (h : RS R s n sc w) (wd : Bt) :
    Calls Tryz.prog 52 #[.pointer (some ⟨R, 0, none⟩), .string (bs wd)] w (fun e w' => e = .returned (.bool (wordL wd s).isSome) ∧ RS R ((wordL wd s).getD s) n sc w' ∧ Off (fun b => b = R) w w') := by
 have HC : Hid (∀ W, Calls Tryz.prog 79 #[.string (bs s), .string (bs wd)] W (fun e w' => e = .returned (.tuple #[.string (bs ((wordL wd s).getD s)), .bool (wordL wd s).isSome]) ∧ W = w')) := hid (fun W => by
  refine (libCutPre (bs s) (bs wd) W).mono ?_
  rintro e w' ⟨rfl, rfl⟩
  rw [bs_list, bs_list, (pre_lib wd s).1, (pre_lib wd s).2]
  exact ⟨rfl, rfl⟩)
 have HN := hid (fun s' => h.set0 s')
 have c0 := h.c0
 have f0 := h.free 0
 generalize (wordL wd s).getD s = r at *
 generalize (wordL wd s).isSome = ok at *
 clear h
 go_enter Tryz.func52, Tryz.ntmps52
 go_wp2_with (go_at_call 79; (with_reducible refine (HC.out _).mono ?_); rintro e w1 ⟨rfl, rfl⟩)
 go_ret
 exact ⟨rfl, HN.out r, off_set8 _ _ _ _⟩
theorem take_yes {R : Nat} {s : Bt} {n : Nat} {sc : Value} {w : World} (h : RS R s n sc w) {wd r : Bt} (hw : wordL wd s = some r) :
    Calls Tryz.prog 52 #[.pointer (some ⟨R, 0, none⟩), .string (bs wd)] w (fun e w' => e = .returned (.bool true) ∧ RS R r n sc w' ∧ Off (fun b => b = R) w w') := by
 have := take_any h wd
 rw [hw] at this
 exact this
theorem take_no {R : Nat} {s : Bt} {n : Nat} {sc : Value} {w : World} (h : RS R s n sc w) {wd : Bt} (hw : wordL wd s = none) :
    Calls Tryz.prog 52 #[.pointer (some ⟨R, 0, none⟩), .string (bs wd)] w (fun e w' => e = .returned (.bool false) ∧ RS R s n sc w' ∧ Off (fun b => b = R) w w') := by
 have := take_any h wd
 rw [hw] at this
 exact this
def blS : Bt := [32, 9, 10, 13]
theorem bl_mem (c : UInt8) : blS.contains c = isBl c := by
 have h : ∀ n : Nat, n < 256 → blS.contains (UInt8.ofNat n) = isBl (UInt8.ofNat n) := by decide +kernel
 have := h c.toNat (UInt8.toNat_lt c)
 rw [UInt8.ofNat_toNat] at this
 exact this
theorem trim_bl (s : Bt) (W : World) : Calls Tryz.prog 96 #[.string (bs s), .string ⟨#[32, 9, 10, 13]⟩] W fun e w' => e = .returned (.string (bs (blanksL s))) ∧ Below W.heap.size W w' := by
 have h := libTrimLeft (bs s) (bs blS) W (by decide) (by
  intro j b h
  rw [bs_list] at h
  have := List.mem_of_getElem? h
  have hall : ∀ c ∈ blS, c.toNat < 128 := by decide
  exact hall b this)
 rw [bs_list, bs_list] at h
 have e : Lib.trimLeftS s blS = blanksL s := by
  unfold Lib.trimLeftS
  rw [show (fun x => blS.contains x) = isBl from funext bl_mem]
  rfl
 rw [e] at h
 exact h
set_option maxRecDepth 100000 in
theorem skip_any {R : Nat} {s : Bt} {n : Nat} {sc : Value} {w : World} (h : RS R s n sc w) :
    Calls Tryz.prog 76 #[.pointer (some ⟨R, 0, none⟩)] w (fun e w' => e = .returned (.bool (decide ((blanksL s).length < s.length))) ∧ RS R (blanksL s) n sc w' ∧ Off (fun b => b = R) w w') := by
 have HT := hid (fun W => trim_bl s W)
 have H0 := hid h
 have hz1 := bs_size s
 have hz2 := bs_size (blanksL s)
 have HZ1 := hid hz1
 have HZ2 := hid hz2
 have c0 := h.c0
 obtain ⟨S, hS⟩ : ∃ S, bs s = S := ⟨_, rfl⟩
 rw [hS] at HT c0 HZ1
 have HS := hid hS
 generalize blanksL s = r at *
 clear h hz1 hz2 hS
 go_enter Tryz.func76, Tryz.ntmps76
 go_wp2_with fail
 refine (HT.out _).mono ?_
 rintro e w1 ⟨rfl, b1⟩
 have h1 := H0.out.below b1
 have d0 := h1.c0
 rw [HS.out] at d0
 have f0 := h1.free 0
 have HN := hid (h1.set0 r)
 clear h1 c0
 go_wp2
 go_ret
 refine ⟨ret_b6 ?_, HN.out, (Off.ofB b1).then (off_set8 _ _ _ _)⟩
 rw [HZ2.out, HZ1.out]
set_option maxRecDepth 100000 in
theorem upTo_any {R : Nat} {s : Bt} {n : Nat} {sc : Value} {w : World} (h : RS R s n sc w) (hm : ML w) (wd : Bt) (hw : wd ≠ []) (hs : s.length ≤ 4000000000) (a r : Bt) (ok : Bool) (ht : (toL wd s = some (a, r) ∧ ok = true) ∨ (toL wd s = none ∧ a = s ∧ r = [] ∧ ok = false)) :
    Calls Tryz.prog 97 #[.pointer (some ⟨R, 0, none⟩), .string (bs wd)] w (fun e w' => e = .returned (.tuple #[.string (bs a), .bool ok]) ∧ RS R r n sc w' ∧ Off (fun b => b = R) w w') := by
 have HC : Hid (Calls Tryz.prog 119 #[.string (bs s), .string (bs wd)] w (fun e w' => e = .returned (.tuple #[.string (bs a), .string (bs r), .bool ok]) ∧ Below w.heap.size w w')) := hid (by
  rcases ht with ⟨ht, rfl⟩ | ⟨ht, rfl, rfl, rfl⟩
  ·exact cutL_yes ht hw hs w hm
  ·exact cutL_no ht hw hs w hm)
 have H0 := hid h
 have c0 := h.c0
 clear h ht hm hw hs
 go_enter Tryz.func97, Tryz.ntmps97
 go_wp2_with fail
 refine HC.out.mono ?_
 rintro e w1 ⟨rfl, b1⟩
 have h1 := H0.out.below b1
 have d0 := h1.c0
 have f0 := h1.free 0
 have HN := hid (h1.set0 r)
 clear h1 c0
 go_wp2
 go_ret2
 exact ⟨rfl, HN.out, (Off.ofB b1).then (off_set8 _ _ _ _)⟩
set_option maxRecDepth 100000 in
theorem clone_any (s : Bt) (hs : s.length ≤ 4000000000) (w : World) : Calls Tryz.prog 45 #[.string (bs s)] w (fun e w' => e = .returned (.string (bs s)) ∧ Below w.heap.size w w') := by
 have HC := hid (fun W => libClone (bs s) W (by rw [bs_size]; omega))
 generalize bs s = S at *
 go_enter Tryz.func45, Tryz.ntmps45
 go_wp2_with (go_at_call 71; (with_reducible refine (HC.out _).mono ?_); rintro e w1 ⟨rfl, b1⟩)
 go_ret
 exact ⟨rfl, b1⟩
theorem slice_front (s : Bt) (k : Nat) (h : k ≤ s.length) (W : World) : (Instr.slice 9 (.string (bs s)) none (some (.int .i64 k)) none).run Tryz.prog W = .ok (.string (bs (s.take k))) W := by
 have hsz := bs_size s
 refine (run_slice_string_h (P := Tryz.prog) W 9 (bs s) Tryz.underlying9 .i64 (k : Int) (by omega) (by omega)).trans ?_
 congr 2
 apply ByteArray.ext
 apply Array.ext'
 rw [show ((k : Int)).toNat = k from by omega]
 unfold bs
 simp [ByteArray.data_extract]
theorem slice_back8 (s : Bt) (k : Nat) (h : k ≤ s.length) (W : World) : (Instr.slice 9 (.string (bs s)) (some (.int .i64 k)) none none).run Tryz.prog W = .ok (.string (bs (s.drop k))) W := by
 have hsz := bs_size s
 refine (run_slice_string_l (P := Tryz.prog) W 9 (bs s) Tryz.underlying9 .i64 (k : Int) (by omega) (by omega)).trans ?_
 congr 2
 apply ByteArray.ext
 apply Array.ext'
 rw [show ((k : Int)).toNat = k from by omega, hsz]
 unfold bs
 simp [ByteArray.data_extract]
 exact List.take_of_length_le (by rw [List.length_drop]; exact Nat.le_refl _)
def RdO (R n : Nat) (sc : Value) (w : World) (o : Option Bt) (e : Ending) (w' : World) : Prop := e = .returned (.bool o.isSome) ∧ (∀ r, o = some r → RS R r n sc w') ∧ Off (fun b => b = R) w w'
theorem RdO.bad {R n : Nat} {sc : Value} {w w' : World} {o : Option Bt} (h : o = none) (ho : Off (fun b => b = R) w w') : RdO R n sc w o (.returned (.bool false)) w' := by subst h; exact ⟨rfl, fun _ h => (by cases h), ho⟩
theorem RdO.good {R n : Nat} {sc : Value} {w w' : World} {o : Option Bt} {r : Bt} (h : o = some r) (hr : RS R r n sc w') (ho : Off (fun b => b = R) w w') : RdO R n sc w o (.returned (.bool true)) w' := by subst h; exact ⟨rfl, fun _ h => (by cases h; exact hr), ho⟩
set_option maxRecDepth 100000 in
theorem name_any {R : Nat} {s : Bt} {n : Nat} {sc : Value} {w : World} (h : RS R s n sc w) (hs : s.length ≤ 1000000000) :
    Calls Tryz.prog 98 #[.pointer (some ⟨R, 0, none⟩)] w (fun e w' => e = .returned (.tuple #[.string (bs (s.take (nameW s))), .bool (decide (0 < nameW s))]) ∧ RS R (s.drop (nameW s)) n sc w' ∧ Off (fun b => b = R) w w') := by
 have HW := hid (fun W => width_any s W (by omega))
 have hk := nameW_le s
 obtain ⟨k, hkk⟩ : ∃ k, nameW s = k := ⟨_, rfl⟩
 rw [hkk] at HW hk ⊢
 have hs1 := fun W => slice_front s k hk W
 have hs2 := fun W => slice_back8 s k hk W
 have HC := hid (fun W => clone_any (s.take k) (by rw [List.length_take]; omega) W)
 have H0 := hid h
 have c0 := h.c0
 have hkb : k ≤ 1000000000 := by omega
 clear h hkk hs
 generalize bs (s.take k) = T at *
 go_enter Tryz.func98, Tryz.ntmps98
 go_wp2_with (go_at_call 110; (with_reducible refine (HW.out _).mono ?_); rintro e w1 ⟨rfl, rfl⟩)
 refine (HC.out _).mono ?_
 rintro e w1 ⟨rfl, b1⟩
 have h1 := H0.out.below b1
 have d0 := h1.c0
 have f0 := h1.free 0
 have HN := hid (h1.set0 (s.drop k))
 clear h1 c0
 go_wp2
 go_ret2
 refine ⟨?_, HN.out, (Off.ofB b1).then (off_set8 _ _ _ _)⟩
 congr 4
set_option maxRecDepth 100000 in
theorem remark_any {R : Nat} {s : Bt} {n : Nat} {sc : Value} {w : World} (h : RS R s n sc w) (hm : ML w) (hs : s.length ≤ 1000000000) :
    Calls Tryz.prog 77 #[.pointer (some ⟨R, 0, none⟩)] w (RdO R n sc w (remL s)) := by
 cases ht : toL [45, 45] s with
 | none =>
  have HO : Hid (remL s = none) := hid (by unfold remL; rw [ht])
  have HU := hid (upTo_any h hm [45, 45] (by decide) (by omega) s [] false (.inr ⟨ht, rfl, rfl, rfl⟩))
  clear ht h hm hs
  go_enter Tryz.func77, Tryz.ntmps77
  go_wp2_with fail
  refine HU.out.mono ?_
  rintro e w1 ⟨rfl, h1, o1⟩
  go_wp2
  go_ret
  exact RdO.bad HO.out o1
 | some x =>
  obtain ⟨a, r⟩ := x
  have HU := hid (upTo_any h hm [45, 45] (by decide) (by omega) a r true (.inl ⟨ht, rfl⟩))
  have HO : Hid (remL s = wordL [62] r) := hid (by unfold remL; rw [ht])
  clear ht h hm hs
  cases hw : wordL [62] r with
  | none =>
   have HT := hid (fun W (hW : RS R r n sc W) => take_no hW hw)
   rw [hw] at HO
   clear hw
   go_enter Tryz.func77, Tryz.ntmps77
   go_wp2_with fail
   refine HU.out.mono ?_
   rintro e w1 ⟨rfl, h1, o1⟩
   go_wp2_with fail
   refine (HT.out _ h1).mono ?_
   rintro e w2 ⟨rfl, h2, o2⟩
   go_wp2
   go_ret
   exact RdO.bad HO.out (o1.then o2)
  | some r2 =>
   have HT := hid (fun W (hW : RS R r n sc W) => take_yes hW hw)
   rw [hw] at HO
   clear hw
   go_enter Tryz.func77, Tryz.ntmps77
   go_wp2_with fail
   refine HU.out.mono ?_
   rintro e w1 ⟨rfl, h1, o1⟩
   go_wp2_with fail
   refine (HT.out _ h1).mono ?_
   rintro e w2 ⟨rfl, h2, o2⟩
   go_wp2
   go_ret
   exact RdO.good HO.out h2 (o1.then o2)
set_option maxRecDepth 100000 in
theorem instr_any {R : Nat} {s : Bt} {n : Nat} {sc : Value} {w : World} (h : RS R s n sc w) (hm : ML w) (hR : 0 ≠ R) (hs : s.length ≤ 1000000000) :
    Calls Tryz.prog 78 #[.pointer (some ⟨R, 0, none⟩)] w (RdO R n sc w (insL s)) := by
 have HN := hid (name_any h hs)
 have hk := nameW_le s
 have HM := hid hm
 have HO : Hid (insL s = if nameW s = 0 then none else (toL [63, 62] (s.drop (nameW s))).map (·.2)) := hid rfl
 obtain ⟨k, hkk⟩ : ∃ k, nameW s = k := ⟨_, rfl⟩
 rw [hkk] at HN HO hk
 obtain ⟨t, htt⟩ : ∃ t, s.drop k = t := ⟨_, rfl⟩
 have htl : t.length ≤ 1000000000 := by rw [← htt, List.length_drop]; omega
 rw [htt] at HN HO
 generalize bs (s.take k) = T at *
 clear h hm hkk htt hs hk
 have key : ∀ (a r : Bt) (ok : Bool), ((toL [63, 62] t = some (a, r) ∧ ok = true) ∨ (toL [63, 62] t = none ∧ a = t ∧ r = [] ∧ ok = false)) → Calls Tryz.prog 78 #[.pointer (some ⟨R, 0, none⟩)] w (RdO R n sc w (insL s)) := by
  intro a r ok hok
  have HU : Hid (∀ W, RS R t n sc W → ML W → Calls Tryz.prog 97 #[.pointer (some ⟨R, 0, none⟩), .string ⟨#[63, 62]⟩] W (fun e w' => e = .returned (.tuple #[.string (bs a), .bool ok]) ∧ RS R r n sc w' ∧ Off (fun b => b = R) W w')) := hid (fun W h1 h2 => upTo_any h1 h2 [63, 62] (by decide) (by omega) a r ok hok)
  by_cases hk0 : k = 0
  ·subst hk0
   have HO2 : Hid (insL s = none) := hid (by rw [HO.out, if_pos rfl])
   have HN2 : Hid (Calls Tryz.prog 98 #[.pointer (some ⟨R, 0, none⟩)] w (fun e w' => e = .returned (.tuple #[.string T, .bool false]) ∧ RS R t n sc w' ∧ Off (fun b => b = R) w w')) := HN
   clear hok HN HO
   go_enter Tryz.func78, Tryz.ntmps78
   go_wp2_with fail
   refine HN2.out.mono ?_
   rintro e w1 ⟨rfl, h1, o1⟩
   go_wp2_with fail
   refine (HU.out _ h1 (HM.out.rd hR o1)).mono ?_
   rintro e w2 ⟨rfl, h2, o2⟩
   go_wp2
   go_ret
   exact RdO.bad HO2.out (o1.then o2)
  ·have HN2 : Hid (Calls Tryz.prog 98 #[.pointer (some ⟨R, 0, none⟩)] w (fun e w' => e = .returned (.tuple #[.string T, .bool true]) ∧ RS R t n sc w' ∧ Off (fun b => b = R) w w')) := by
    rw [decide_eq_true (show 0 < k by omega)] at HN
    exact HN
   rcases hok with ⟨h1, rfl⟩ | ⟨h1, _, _, rfl⟩
   ·have HO2 : Hid (insL s = some r) := hid (by rw [HO.out, if_neg hk0, h1]; rfl)
    clear h1 HN HO hk0
    go_enter Tryz.func78, Tryz.ntmps78
    go_wp2_with fail
    refine HN2.out.mono ?_
    rintro e w1 ⟨rfl, h1, o1⟩
    go_wp2_with fail
    refine (HU.out _ h1 (HM.out.rd hR o1)).mono ?_
    rintro e w2 ⟨rfl, h2, o2⟩
    go_wp2
    go_ret
    exact RdO.good HO2.out h2 (o1.then o2)
   ·have HO2 : Hid (insL s = none) := hid (by rw [HO.out, if_neg hk0, h1]; rfl)
    clear h1 HN HO hk0
    go_enter Tryz.func78, Tryz.ntmps78
    go_wp2_with fail
    refine HN2.out.mono ?_
    rintro e w1 ⟨rfl, h1, o1⟩
    go_wp2_with fail
    refine (HU.out _ h1 (HM.out.rd hR o1)).mono ?_
    rintro e w2 ⟨rfl, h2, o2⟩
    go_wp2
    go_ret
    exact RdO.bad HO2.out (o1.then o2)
 cases hto : toL [63, 62] t with
 | none => exact key t [] false (.inr ⟨hto, rfl, rfl, rfl⟩)
 | some x => exact key x.1 x.2 true (.inl ⟨hto, rfl⟩)
def restOf (R : Nat) (w : World) : Nat := match w.cell? ⟨R, 0, none⟩ with | some (.string b) => b.size | _ => 0
theorem rest_of {R : Nat} {s : Bt} {n : Nat} {sc : Value} {w : World} (h : RS R s n sc w) : restOf R w = s.length := by
 unfold restOf
 rw [h.c0]
 exact bs_size s
set_option maxRecDepth 100000 in
theorem around_any {R : Nat} {s : Bt} {n : Nat} {sc : Value} {w : World} (h : RS R s n sc w) (hm : ML w) (hR : 0 ≠ R) (hs : s.length ≤ 1000000000) :
    Calls Tryz.prog 51 #[.pointer (some ⟨R, 0, none⟩)] w (RdO R n sc w (aroundL s)) := by
 have HM := hid hm
 have H0 := hid h
 clear hm h
 go_enter Tryz.func51, Tryz.ntmps51
 go_wp2
 go_loopw [] (fun wr => ∃ t : Bt, t.length ≤ 1000000000 ∧ Hid (RS R t n sc wr) ∧ Hid (aroundL t = aroundL s) ∧ Hid (Off (fun b => b = R) w wr)) (fun wr => restOf R wr)
 case atStart => exact ⟨s, hs, H0, hid rfl, hid (Off.refl _ _)⟩
 case round =>
  obtain ⟨t, ht, HT, HA, HO⟩ := hrel
  have hbl := blanks_le t
  have HSk := hid (skip_any HT.out)
  have HE := hid (aroundL_eq t)
  have HRT := hid (rest_of HT.out)
  obtain ⟨u, hu⟩ : ∃ u, blanksL t = u := ⟨_, rfl⟩
  rw [hu] at HSk HE hbl
  have hul : u.length ≤ 1000000000 := by omega
  have HBL := hid hbl
  clear hu hbl ht
  generalize decide (u.length < t.length) = bo at *
  cases h1 : wordL [60, 33, 45, 45] u with
  | some r =>
   have hlr := word_len h1
   simp only [List.length_cons, List.length_nil] at hlr
   have HT1 := hid (fun W (hW : RS R u n sc W) => take_yes hW h1)
   have HR := hid (fun W (hW : RS R r n sc W) (hm : ML W) => remark_any hW hm (by omega))
   have HE2 : Hid (asideL u = (remL r).map some) := hid (by unfold asideL; rw [h1])
   clear h1
   cases h2 : remL r with
   | none =>
    rw [h2] at HR HE2
    have HX : Hid (aroundL s = none) := hid (by rw [← HA.out, HE.out, HE2.out]; rfl)
    clear h2
    go_wp2_with fail
    refine HSk.out.mono ?_
    rintro e w1 ⟨rfl, k1, o1⟩
    go_wp2_with fail
    refine (HT1.out _ k1).mono ?_
    rintro e w2 ⟨rfl, k2, o2⟩
    go_wp2_with fail
    refine (HR.out _ k2 (HM.out.rd hR ((HO.out.then o1).then o2))).mono ?_
    rintro e w3 ⟨rfl, k3, o3⟩
    go_wp2
    go_ret
    exact RdO.bad HX.out (((HO.out.then o1).then o2).then o3)
   | some q =>
    rw [h2] at HR HE2
    have hlq := rem_len h2
    have HX : Hid (aroundL q = aroundL s) := hid (by rw [← HA.out, HE.out, HE2.out]; rfl)
    clear h2
    go_wp2_with fail
    refine HSk.out.mono ?_
    rintro e w1 ⟨rfl, k1, o1⟩
    go_wp2_with fail
    refine (HT1.out _ k1).mono ?_
    rintro e w2 ⟨rfl, k2, o2⟩
    go_wp2_with fail
    refine (HR.out _ k2 (HM.out.rd hR ((HO.out.then o1).then o2))).mono ?_
    rintro e w3 ⟨rfl, k3, o3⟩
    have HK := hid (k3 q rfl)
    clear k1 k2 k3
    go_wp2
    go_roundw
    case rel => exact ⟨q, by omega, HK, HX, hid (((HO.out.then o1).then o2).then o3)⟩
    case measure => rw [rest_of HK.out, HRT.out]; have := HBL.out; omega
  | none =>
   have HT1 := hid (fun W (hW : RS R u n sc W) => take_no hW h1)
   cases h3 : wordL [60, 63] u with
   | some r =>
    have hlr := word_len h3
    simp only [List.length_cons, List.length_nil] at hlr
    have HT2 := hid (fun W (hW : RS R u n sc W) => take_yes hW h3)
    have HR := hid (fun W (hW : RS R r n sc W) (hm : ML W) => instr_any hW hm hR (by omega))
    have HE2 : Hid (asideL u = (insL r).map some) := hid (by unfold asideL; rw [h1, h3])
    clear h1 h3
    cases h2 : insL r with
    | none =>
     rw [h2] at HR HE2
     have HX : Hid (aroundL s = none) := hid (by rw [← HA.out, HE.out, HE2.out]; rfl)
     clear h2
     go_wp2_with fail
     refine HSk.out.mono ?_
     rintro e w1 ⟨rfl, k1, o1⟩
     go_wp2_with fail
     refine (HT1.out _ k1).mono ?_
     rintro e w2 ⟨rfl, k2, o2⟩
     go_wp2_with fail
     refine (HT2.out _ k2).mono ?_
     rintro e w3 ⟨rfl, k3, o3⟩
     go_wp2_with fail
     refine (HR.out _ k3 (HM.out.rd hR (((HO.out.then o1).then o2).then o3))).mono ?_
     rintro e w4 ⟨rfl, k4, o4⟩
     go_wp2
     go_ret
     exact RdO.bad HX.out ((((HO.out.then o1).then o2).then o3).then o4)
    | some q =>
     rw [h2] at HR HE2
     have hlq := ins_len h2
     have HX : Hid (aroundL q = aroundL s) := hid (by rw [← HA.out, HE.out, HE2.out]; rfl)
     clear h2
     go_wp2_with fail
     refine HSk.out.mono ?_
     rintro e w1 ⟨rfl, k1, o1⟩
     go_wp2_with fail
     refine (HT1.out _ k1).mono ?_
     rintro e w2 ⟨rfl, k2, o2⟩
     go_wp2_with fail
     refine (HT2.out _ k2).mono ?_
     rintro e w3 ⟨rfl, k3, o3⟩
     go_wp2_with fail
     refine (HR.out _ k3 (HM.out.rd hR (((HO.out.then o1).then o2).then o3))).mono ?_
     rintro e w4 ⟨rfl, k4, o4⟩
     have HK := hid (k4 q rfl)
     clear k1 k2 k3 k4
     go_wp2
     go_roundw
     case rel => exact ⟨q, by omega, HK, HX, hid ((((HO.out.then o1).then o2).then o3).then o4)⟩
     case measure => rw [rest_of HK.out, HRT.out]; have := HBL.out; omega
   | none =>
    have HT2 := hid (fun W (hW : RS R u n sc W) => take_no hW h3)
    have HE2 : Hid (asideL u = some none) := hid (by unfold asideL; rw [h1, h3])
    have HX : Hid (aroundL s = some u) := hid (by rw [← HA.out, HE.out, HE2.out])
    clear h1 h3
    go_wp2_with fail
    refine HSk.out.mono ?_
    rintro e w1 ⟨rfl, k1, o1⟩
    go_wp2_with fail
    refine (HT1.out _ k1).mono ?_
    rintro e w2 ⟨rfl, k2, o2⟩
    go_wp2_with fail
    refine (HT2.out _ k2).mono ?_
    rintro e w3 ⟨rfl, k3, o3⟩
    go_wp2
    go_ret
    exact RdO.good HX.out k3 (((HO.out.then o1).then o2).then o3)
abbrev QV (m : XN) : Value := .agg #[.string (bs m.1), .string (bs m.2)]
theorem two_set {B : Nat} {T : TypeId} {x y a b : Value} {w : World} (h : Blk B (.cells #[x, y] T (0, 0)) w) : Blk B (.cells #[a, b] T (0, 0)) ((w.setCell ⟨B, 0, none⟩ a).setCell ⟨B, 1, none⟩ b) := by
 have := (h.set 0 a).set 1 b
 simpa using this
theorem Off.new {F : Nat → Prop} {w w' : World} {B : Nat} (h : Off F w w') (hB : w.heap.size ≤ B) (j : Nat) (v : Value) : Off F w (w'.setCell ⟨B, j, none⟩ v) := h.trans (off_set8 w' B j v) (fun x hx => .inr (by rw [hx]; exact hB))
def QOut (R n : Nat) (sc : Value) (w : World) (o : Option (XN × Bt)) (e : Ending) (w' : World) : Prop :=
 (∃ x y : Bt, e = .returned (.tuple #[.agg #[.string (bs x), .string (bs y)], .bool o.isSome]) ∧ ∀ m r, o = some (m, r) → x = m.1 ∧ y = m.2) ∧ (∀ m r, o = some (m, r) → RS R r n sc w') ∧ Off (fun b => b = R) w w'
set_option maxRecDepth 100000 in
theorem qual_any {R : Nat} {s : Bt} {n : Nat} {sc : Value} {w : World} (h : RS R s n sc w) (hs : s.length ≤ 1000000000) :
    Calls Tryz.prog 100 #[.pointer (some ⟨R, 0, none⟩)] w (QOut R n sc w (markL s)) := by
 have hlt := h.lt
 have hoa : ∀ o : Obj, Off (fun b => b = R) w (w.alloc o) := fun o => Off.ofB ((Below.refl _ _).alloc (Nat.le_refl _) o)
 have HN := hid (fun W (hW : RS R s n sc W) => name_any hW hs)
 have hk := nameW_le s
 obtain ⟨k, hkk⟩ : ∃ k, nameW s = k := ⟨_, rfl⟩
 have HMk : Hid (markL s = if nameW s = 0 then none else
  match wordL [58] (s.drop (nameW s)) with
  | none => some (([], s.take (nameW s)), s.drop (nameW s))
  | some r => if nameW r = 0 then none else some ((s.take (nameW s), r.take (nameW r)), r.drop (nameW r))) := hid rfl
 rw [hkk] at HN hk HMk
 obtain ⟨t, htt⟩ : ∃ t, s.drop k = t := ⟨_, rfl⟩
 obtain ⟨u, huu⟩ : ∃ u, s.take k = u := ⟨_, rfl⟩
 have htl : t.length ≤ 1000000000 := by rw [← htt, List.length_drop]; omega
 rw [htt, huu] at HN HMk
 obtain ⟨o, ho⟩ : ∃ o, markL s = o := ⟨_, rfl⟩
 rw [ho] at HMk ⊢
 have H0 := hid (h.below ((Below.refl _ _).alloc (Nat.le_refl _) (.cells #[.string ⟨#[]⟩, .string ⟨#[]⟩] 110)))
 clear h hkk htt huu ho
 by_cases hk0 : k = 0
 ·subst hk0
  have HO : Hid (o = none) := hid (by rw [HMk.out, if_pos rfl])
  rw [decide_eq_false (show ¬ 0 < 0 by omega)] at HN
  clear HMk hk
  go_enter Tryz.func100, Tryz.ntmps100
  go_wp2_with fail
  refine (HN.out _ H0.out).mono ?_
  rintro e w1 ⟨rfl, k1, o1⟩
  have hB : Blk w.heap.size (.cells #[.string ⟨#[]⟩, .string ⟨#[]⟩] 110 (0, 0)) w1 := o1.blk (Blk.new _ _) (by omega)
  have e0 := hB.cell 0
  have e1 := hB.cell 1
  have g0 := hB.free 0
  have g1 := hB.free 1
  have HB := hid hB
  clear hB
  go_wp2
  have hE := two_set (a := .string ⟨#[]⟩) (b := .string (bs u)) HB.out
  have d0 := hE.cell 0
  have d1 := hE.cell 1
  exact bodyPost_ret (v := .tuple #[.agg #[.string ⟨#[]⟩, .string (bs u)], .bool false]) (by simp [results, Tryz.results100, go_sem, d0, d1]) rfl ⟨⟨[], u, by rw [HO.out]; rfl, fun m r h => (by rw [HO.out] at h; cases h)⟩, fun m r h => (by rw [HO.out] at h; cases h), ((((hoa _).then o1).new (Nat.le_refl _) _ _).new (Nat.le_refl _) _ _)⟩
 ·rw [decide_eq_true (show 0 < k by omega)] at HN
  have HM2 : Hid (o = match wordL [58] t with | none => some (([], u), t) | some r => if nameW r = 0 then none else some ((u, r.take (nameW r)), r.drop (nameW r))) := hid (by rw [HMk.out, if_neg hk0])
  clear HMk hk hk0 hs
  cases hw : wordL [58] t with
  | none =>
   have HW := hid (fun W (hW : RS R t n sc W) => take_no hW hw)
   have HO : Hid (o = some (([], u), t)) := hid (by rw [HM2.out, hw])
   clear HM2 hw
   go_enter Tryz.func100, Tryz.ntmps100
   go_wp2_with fail
   refine (HN.out _ H0.out).mono ?_
   rintro e w1 ⟨rfl, k1, o1⟩
   go_wp2_with fail
   refine (HW.out _ k1).mono ?_
   rintro e w2 ⟨rfl, k2, o2⟩
   have hB : Blk w.heap.size (.cells #[.string ⟨#[]⟩, .string ⟨#[]⟩] 110 (0, 0)) w2 := (o1.then o2).blk (Blk.new _ _) (by omega)
   have e0 := hB.cell 0
   have e1 := hB.cell 1
   have g0 := hB.free 0
   have g1 := hB.free 1
   have HB := hid hB
   clear hB
   have HK := hid k2
   clear k1 k2
   go_wp2
   have hE := two_set (a := .string ⟨#[]⟩) (b := .string (bs u)) HB.out
   have d0 := hE.cell 0
   have d1 := hE.cell 1
   exact bodyPost_ret (v := .tuple #[.agg #[.string ⟨#[]⟩, .string (bs u)], .bool true]) (by simp [results, Tryz.results100, go_sem, d0, d1]) rfl ⟨⟨[], u, by rw [HO.out]; rfl, fun m r h => (by rw [HO.out] at h; cases h; exact ⟨rfl, rfl⟩)⟩, fun m r h => (by rw [HO.out] at h; cases h; exact (HK.out.off (off_set8 _ _ _ _) (by omega)).off (off_set8 _ _ _ _) (by omega)), (((((hoa _).then o1).then o2).new (Nat.le_refl _) _ _).new (Nat.le_refl _) _ _)⟩
  | some r =>
   have hl := word_len hw
   have HW := hid (fun W (hW : RS R t n sc W) => take_yes hW hw)
   have HN2 := hid (fun W (hW : RS R r n sc W) => name_any hW (by omega))
   have HM3 : Hid (o = if nameW r = 0 then none else some ((u, r.take (nameW r)), r.drop (nameW r))) := hid (by rw [HM2.out, hw])
   obtain ⟨q, hq⟩ : ∃ q, nameW r = q := ⟨_, rfl⟩
   obtain ⟨v, hv⟩ : ∃ v, r.take q = v := ⟨_, rfl⟩
   obtain ⟨r2, hr2⟩ : ∃ v, r.drop q = v := ⟨_, rfl⟩
   rw [hq, hv, hr2] at HN2 HM3
   clear HM2 hw hl hq hv hr2
   by_cases hq0 : q = 0
   ·have HO : Hid (o = none) := hid (by rw [HM3.out, if_pos hq0])
    rw [decide_eq_false (show ¬ 0 < q by omega)] at HN2
    clear HM3 hq0
    go_enter Tryz.func100, Tryz.ntmps100
    go_wp2_with fail
    refine (HN.out _ H0.out).mono ?_
    rintro e w1 ⟨rfl, k1, o1⟩
    go_wp2_with fail
    refine (HW.out _ k1).mono ?_
    rintro e w2 ⟨rfl, k2, o2⟩
    go_wp2_with fail
    refine (HN2.out _ k2).mono ?_
    rintro e w3 ⟨rfl, k3, o3⟩
    have hB : Blk w.heap.size (.cells #[.string ⟨#[]⟩, .string ⟨#[]⟩] 110 (0, 0)) w3 := ((o1.then o2).then o3).blk (Blk.new _ _) (by omega)
    have e0 := hB.cell 0
    have e1 := hB.cell 1
    have g0 := hB.free 0
    have g1 := hB.free 1
    have HB := hid hB
    clear hB
    have HK := hid k3
    clear k1 k2 k3
    go_wp2
    have hE := two_set (a := .string (bs u)) (b := .string (bs v)) HB.out
    have d0 := hE.cell 0
    have d1 := hE.cell 1
    exact bodyPost_ret (v := .tuple #[.agg #[.string (bs u), .string (bs v)], .bool false]) (by simp [results, Tryz.results100, go_sem, d0, d1]) rfl ⟨⟨u, v, by rw [HO.out]; rfl, fun m r h => (by rw [HO.out] at h; cases h)⟩, fun m r h => (by rw [HO.out] at h; cases h), ((((((hoa _).then o1).then o2).then o3).new (Nat.le_refl _) _ _).new (Nat.le_refl _) _ _)⟩
   ·have HO : Hid (o = some ((u, v), r2)) := hid (by rw [HM3.out, if_neg hq0])
    rw [decide_eq_true (show 0 < q by omega)] at HN2
    clear HM3 hq0
    go_enter Tryz.func100, Tryz.ntmps100
    go_wp2_with fail
    refine (HN.out _ H0.out).mono ?_
    rintro e w1 ⟨rfl, k1, o1⟩
    go_wp2_with fail
    refine (HW.out _ k1).mono ?_
    rintro e w2 ⟨rfl, k2, o2⟩
    go_wp2_with fail
    refine (HN2.out _ k2).mono ?_
    rintro e w3 ⟨rfl, k3, o3⟩
    have hB : Blk w.heap.size (.cells #[.string ⟨#[]⟩, .string ⟨#[]⟩] 110 (0, 0)) w3 := ((o1.then o2).then o3).blk (Blk.new _ _) (by omega)
    have e0 := hB.cell 0
    have e1 := hB.cell 1
    have g0 := hB.free 0
    have g1 := hB.free 1
    have HB := hid hB
    clear hB
    have HK := hid k3
    clear k1 k2 k3
    go_wp2
    have hE := two_set (a := .string (bs u)) (b := .string (bs v)) HB.out
    have d0 := hE.cell 0
    have d1 := hE.cell 1
    exact bodyPost_ret (v := .tuple #[.agg #[.string (bs u), .string (bs v)], .bool true]) (by simp [results, Tryz.results100, go_sem, d0, d1]) rfl ⟨⟨u, v, by rw [HO.out]; rfl, fun m r h => (by rw [HO.out] at h; cases h; exact ⟨rfl, rfl⟩)⟩, fun m r h => (by rw [HO.out] at h; cases h; exact (HK.out.off (off_set8 _ _ _ _) (by omega)).off (off_set8 _ _ _ _) (by omega)), ((((((hoa _).then o1).then o2).then o3).new (Nat.le_refl _) _ _).new (Nat.le_refl _) _ _)⟩
def VOut (R n : Nat) (sc : Value) (w : World) (o : Option (Bt × Bt)) (e : Ending) (w' : World) : Prop :=
 (∃ x : Bt, e = .returned (.tuple #[.string (bs x), .bool o.isSome]) ∧ ∀ v r, o = some (v, r) → x = v) ∧ (∀ v r, o = some (v, r) → RS R r n sc w') ∧ Off (fun b => b = R) w w'
theorem VOut.bad {R n : Nat} {sc : Value} {w w' : World} {o : Option (Bt × Bt)} {x : Bt} (h : o = none) (ho : Off (fun b => b = R) w w') : VOut R n sc w o (.returned (.tuple #[.string (bs x), .bool false])) w' := by
 subst h
 exact ⟨⟨x, rfl, fun _ _ h => (by cases h)⟩, fun _ _ h => (by cases h), ho⟩
theorem VOut.good {R n : Nat} {sc : Value} {w w' : World} {o : Option (Bt × Bt)} {x r : Bt} (h : o = some (x, r)) (hr : RS R r n sc w') (ho : Off (fun b => b = R) w w') : VOut R n sc w o (.returned (.tuple #[.string (bs x), .bool true])) w' := by
 subst h
 exact ⟨⟨x, rfl, fun _ _ h => (by cases h; rfl)⟩, fun _ _ h => (by cases h; exact hr), ho⟩
theorem cont60 (a : Bt) (hl : a.length ≤ 4000000000) (W : World) (hm : ML W) (b : Bool) (hb : decide ((60 : UInt8) ∈ a) = b) : Calls Tryz.prog 90 #[.string (bs a), .string ⟨#[60]⟩] W (fun e w' => e = .returned (.bool b) ∧ W = w') := by
 have := contL_any [60] a (List.cons_ne_nil _ _) hl W hm
 rw [to_mem, hb] at this
 exact this
theorem word_head {q : UInt8} {s : Bt} : (∃ r, s = q :: r ∧ wordL [q] s = some r) ∨ ((∀ r, s ≠ q :: r) ∧ wordL [q] s = none) := by
 cases s with
 | nil => exact .inr ⟨fun r h => (by cases h), word_nil _ _⟩
 | cons c r =>
  by_cases h : q = c
  ·subst h
   exact .inl ⟨r, rfl, by rw [word_one, if_pos rfl]⟩
  ·exact .inr ⟨fun r' h' => h (by injection h' with h1 _; exact h1.symm), by rw [word_one, if_neg h]⟩
theorem value_of {q : UInt8} {r : Bt} (hq : q = 34 ∨ q = 39) : valueL (q :: r) = match toL [q] r with
    | none => none
    | some (v, r') => if (60 : UInt8) ∈ v then none else (refsL (linesL v)).map fun x => (x, r') := by
 simp only [valueL]
 rw [if_pos hq]
 rfl
theorem value_not {s : Bt} (h1 : ∀ r, s ≠ 34 :: r) (h2 : ∀ r, s ≠ 39 :: r) : valueL s = none := by
 cases s with
 | nil => rfl
 | cons c r =>
  simp only [valueL]
  rw [if_neg]
  rintro (h | h)
  ·exact h1 r (by rw [h])
  ·exact h2 r (by rw [h])
set_option maxRecDepth 100000 in
set_option maxHeartbeats 2000000 in
theorem value_any {R : Nat} {s : Bt} {n : Nat} {sc : Value} {w : World} (h : RS R s n sc w) (hm : ML w) (hR : 0 ≠ R) (hs : s.length ≤ 100000) :
    Calls Tryz.prog 120 #[.pointer (some ⟨R, 0, none⟩)] w (VOut R n sc w (valueL s)) := by
 have HM := hid hm
 have hlt := h.lt
 have hba : Below w.heap.size w (w.alloc (.cells #[.string ⟨#[34]⟩, .string ⟨#[39]⟩] 9)) := (Below.refl _ _).alloc (Nat.le_refl _) _
 have HB0 : Hid (Blk w.heap.size (.cells #[.string ⟨#[34]⟩, .string ⟨#[39]⟩] 9 (0, 0)) (w.alloc (.cells #[.string ⟨#[34]⟩, .string ⟨#[39]⟩] 9))) := hid (Blk.new _ _)
 have H0 := hid (h.below hba)
 have HO0 : Hid (Off (fun b => b = R) w (w.alloc (.cells #[.string ⟨#[34]⟩, .string ⟨#[39]⟩] 9))) := hid (Off.ofB hba)
 obtain ⟨o, ho⟩ : ∃ o, valueL s = o := ⟨_, rfl⟩
 have HV := hid ho
 rw [ho]
 clear ho h hm hba
 go_enter Tryz.func120, Tryz.ntmps120
 go_wp2
 go_loopw [12] (fun i wr => (i = .int .i64 0 ∧ Hid (RS R s n sc wr) ∧ Hid (Off (fun b => b = R) w wr) ∧ Hid (Blk w.heap.size (.cells #[.string ⟨#[34]⟩, .string ⟨#[39]⟩] 9 (0, 0)) wr)) ∨ (i = .int .i64 1 ∧ Hid (RS R s n sc wr) ∧ Hid (Off (fun b => b = R) w wr) ∧ Hid (Blk w.heap.size (.cells #[.string ⟨#[34]⟩, .string ⟨#[39]⟩] 9 (0, 0)) wr) ∧ Hid (∀ r, s ≠ 34 :: r)) ∨ (i = .int .i64 2 ∧ Hid (Off (fun b => b = R) w wr) ∧ Hid ((∀ r, s ≠ 34 :: r) ∧ (∀ r, s ≠ 39 :: r)))) (fun i _ => 2 - (RowKit.intOf i).toNat)
 case atStart => exact .inl ⟨rfl, H0, HO0, HB0⟩
 case round =>
  clear H0 HO0 HB0
  rcases hrel with ⟨rfl, HK, HO, HB⟩ | ⟨rfl, HK, HO, HB, HN34⟩ | ⟨rfl, HO, HNN⟩
  ·have c0 := HB.out.cell 0
   have c1 := HB.out.cell 1
   rcases word_head (q := 34) (s := s) with ⟨r, hsr, hw⟩ | ⟨hne, hw⟩
   ·have HT := hid (take_yes HK.out hw)
    have HVO := hid (value_of (q := 34) (r := r) (by decide))
    rw [← hsr, HV.out] at HVO
    have hrl : r.length ≤ 100000 := by rw [hsr, List.length_cons] at hs; omega
    clear hw hsr hs
    cases ht : toL [34] r with
    | none =>
     have HU := hid (fun W (hW : RS R r n sc W) (hm : ML W) => upTo_any hW hm [34] (List.cons_ne_nil _ _) (by omega) r [] false (.inr ⟨ht, rfl, rfl, rfl⟩))
     have HW := hid (fun W (hm : ML W) => unwritten_any r hrl W hm)
     unfold UnwOut at HW
     have HVN : Hid (o = none) := hid (by rw [HVO.out, ht])
     generalize refsL (linesL r) = o2 at *
     clear ht HVO
     cases o2
     all_goals
      go_wp2_with fail
      refine HT.out.mono ?_
      rintro e w1 ⟨rfl, k1, o1⟩
      go_wp2_with fail
      refine (HU.out _ k1 (HM.out.rd hR (HO.out.then o1))).mono ?_
      rintro e w2 ⟨rfl, k2, o2⟩
      go_wp2_with fail
      refine (HW.out _ (HM.out.rd hR ((HO.out.then o1).then o2))).mono ?_
      rintro e w3 ⟨rfl, b3⟩
      go_wp2
      go_ret2
      exact VOut.bad HVN.out (((HO.out.then o1).then o2).thenB b3)
    | some x =>
     obtain ⟨a, r2⟩ := x
     have HU := hid (fun W (hW : RS R r n sc W) (hm : ML W) => upTo_any hW hm [34] (List.cons_ne_nil _ _) (by omega) a r2 true (.inl ⟨ht, rfl⟩))
     have hla := to_len ht
     have hal : a.length ≤ 100000 := by omega
     have HW := hid (fun W (hm : ML W) => unwritten_any a hal W hm)
     have HC := hid (fun W (hm : ML W) b hb => cont60 a (by omega) W hm b hb)
     unfold UnwOut at HW
     have HVN : Hid (o = if (60 : UInt8) ∈ a then none else (refsL (linesL a)).map fun x => (x, r2)) := hid (by rw [HVO.out, ht])
     generalize refsL (linesL a) = o2 at *
     clear ht HVO hla
     cases o2 with
     | none =>
      have HVN2 : Hid (o = none) := hid (by rw [HVN.out]; split <;> rfl)
      clear HVN
      go_wp2_with fail
      refine HT.out.mono ?_
      rintro e w1 ⟨rfl, k1, o1⟩
      go_wp2_with fail
      refine (HU.out _ k1 (HM.out.rd hR (HO.out.then o1))).mono ?_
      rintro e w2 ⟨rfl, k2, o2⟩
      go_wp2_with fail
      refine (HW.out _ (HM.out.rd hR ((HO.out.then o1).then o2))).mono ?_
      rintro e w3 ⟨rfl, b3⟩
      go_wp2
      go_ret2
      exact VOut.bad HVN2.out (((HO.out.then o1).then o2).thenB b3)
     | some x =>
      have HW2 : Hid (∀ W, ML W → Calls Tryz.prog 139 #[.string (bs a)] W (fun e w' => e = .returned (.tuple #[.string (bs x), .bool true]) ∧ Below W.heap.size W w')) := HW
      clear HW
      by_cases h60 : (60 : UInt8) ∈ a
      ·have HVN2 : Hid (o = none) := hid (by rw [HVN.out, if_pos h60])
       have HC2 := hid (fun W (hm : ML W) => HC.out W hm true (decide_eq_true h60))
       clear HVN HC h60
       go_wp2_with fail
       refine HT.out.mono ?_
       rintro e w1 ⟨rfl, k1, o1⟩
       go_wp2_with fail
       refine (HU.out _ k1 (HM.out.rd hR (HO.out.then o1))).mono ?_
       rintro e w2 ⟨rfl, k2, o2⟩
       go_wp2_with fail
       refine (HW2.out _ (HM.out.rd hR ((HO.out.then o1).then o2))).mono ?_
       rintro e w3 ⟨rfl, b3⟩
       go_wp2_with fail
       refine (HC2.out _ (HM.out.rd hR (((HO.out.then o1).then o2).thenB b3))).mono ?_
       rintro e w4 ⟨rfl, rfl⟩
       go_wp2
       go_ret2
       exact VOut.bad HVN2.out (((HO.out.then o1).then o2).thenB b3)
      ·have HVN2 : Hid (o = some (x, r2)) := hid (by rw [HVN.out, if_neg h60]; rfl)
       have HC2 := hid (fun W (hm : ML W) => HC.out W hm false (decide_eq_false h60))
       clear HVN HC h60
       go_wp2_with fail
       refine HT.out.mono ?_
       rintro e w1 ⟨rfl, k1, o1⟩
       go_wp2_with fail
       refine (HU.out _ k1 (HM.out.rd hR (HO.out.then o1))).mono ?_
       rintro e w2 ⟨rfl, k2, o2⟩
       go_wp2_with fail
       refine (HW2.out _ (HM.out.rd hR ((HO.out.then o1).then o2))).mono ?_
       rintro e w3 ⟨rfl, b3⟩
       have HK3 := hid (k2.below b3)
       clear k1 k2
       go_wp2_with fail
       refine (HC2.out _ (HM.out.rd hR (((HO.out.then o1).then o2).thenB b3))).mono ?_
       rintro e w4 ⟨rfl, rfl⟩
       go_wp2
       go_ret2
       exact VOut.good HVN2.out HK3.out (((HO.out.then o1).then o2).thenB b3)
   ·have HT := hid (take_no HK.out hw)
    have HNE := hid hne
    clear hw hne
    go_wp2_with fail
    refine HT.out.mono ?_
    rintro e w1 ⟨rfl, k1, o1⟩
    have HK1 := hid k1
    have HB1 := hid (o1.blk HB.out (by omega))
    clear k1
    go_wp2
    go_roundw
    case rel => exact .inr (.inl ⟨rfl, HK1, hid (HO.out.then o1), HB1, HNE⟩)
    case measure => decide
  ·have c0 := HB.out.cell 0
   have c1 := HB.out.cell 1
   rcases word_head (q := 39) (s := s) with ⟨r, hsr, hw⟩ | ⟨hne, hw⟩
   ·have HT := hid (take_yes HK.out hw)
    have HVO := hid (value_of (q := 39) (r := r) (by decide))
    rw [← hsr, HV.out] at HVO
    have hrl : r.length ≤ 100000 := by rw [hsr, List.length_cons] at hs; omega
    clear hw hsr hs
    cases ht : toL [39] r with
    | none =>
     have HU := hid (fun W (hW : RS R r n sc W) (hm : ML W) => upTo_any hW hm [39] (List.cons_ne_nil _ _) (by omega) r [] false (.inr ⟨ht, rfl, rfl, rfl⟩))
     have HW := hid (fun W (hm : ML W) => unwritten_any r hrl W hm)
     unfold UnwOut at HW
     have HVN : Hid (o = none) := hid (by rw [HVO.out, ht])
     generalize refsL (linesL r) = o2 at *
     clear ht HVO
     cases o2
     all_goals
      go_wp2_with fail
      refine HT.out.mono ?_
      rintro e w1 ⟨rfl, k1, o1⟩
      go_wp2_with fail
      refine (HU.out _ k1 (HM.out.rd hR (HO.out.then o1))).mono ?_
      rintro e w2 ⟨rfl, k2, o2⟩
      go_wp2_with fail
      refine (HW.out _ (HM.out.rd hR ((HO.out.then o1).then o2))).mono ?_
      rintro e w3 ⟨rfl, b3⟩
      go_wp2
      go_ret2
      exact VOut.bad HVN.out (((HO.out.then o1).then o2).thenB b3)
    | some x =>
     obtain ⟨a, r2⟩ := x
     have HU := hid (fun W (hW : RS R r n sc W) (hm : ML W) => upTo_any hW hm [39] (List.cons_ne_nil _ _) (by omega) a r2 true (.inl ⟨ht, rfl⟩))
     have hla := to_len ht
     have hal : a.length ≤ 100000 := by omega
     have HW := hid (fun W (hm : ML W) => unwritten_any a hal W hm)
     have HC := hid (fun W (hm : ML W) b hb => cont60 a (by omega) W hm b hb)
     unfold UnwOut at HW
     have HVN : Hid (o = if (60 : UInt8) ∈ a then none else (refsL (linesL a)).map fun x => (x, r2)) := hid (by rw [HVO.out, ht])
     generalize refsL (linesL a) = o2 at *
     clear ht HVO hla
     cases o2 with
     | none =>
      have HVN2 : Hid (o = none) := hid (by rw [HVN.out]; split <;> rfl)
      clear HVN
      go_wp2_with fail
      refine HT.out.mono ?_
      rintro e w1 ⟨rfl, k1, o1⟩
      go_wp2_with fail
      refine (HU.out _ k1 (HM.out.rd hR (HO.out.then o1))).mono ?_
      rintro e w2 ⟨rfl, k2, o2⟩
      go_wp2_with fail
      refine (HW.out _ (HM.out.rd hR ((HO.out.then o1).then o2))).mono ?_
      rintro e w3 ⟨rfl, b3⟩
      go_wp2
      go_ret2
      exact VOut.bad HVN2.out (((HO.out.then o1).then o2).thenB b3)
     | some x =>
      have HW2 : Hid (∀ W, ML W → Calls Tryz.prog 139 #[.string (bs a)] W (fun e w' => e = .returned (.tuple #[.string (bs x), .bool true]) ∧ Below W.heap.size W w')) := HW
      clear HW
      by_cases h60 : (60 : UInt8) ∈ a
      ·have HVN2 : Hid (o = none) := hid (by rw [HVN.out, if_pos h60])
       have HC2 := hid (fun W (hm : ML W) => HC.out W hm true (decide_eq_true h60))
       clear HVN HC h60
       go_wp2_with fail
       refine HT.out.mono ?_
       rintro e w1 ⟨rfl, k1, o1⟩
       go_wp2_with fail
       refine (HU.out _ k1 (HM.out.rd hR (HO.out.then o1))).mono ?_
       rintro e w2 ⟨rfl, k2, o2⟩
       go_wp2_with fail
       refine (HW2.out _ (HM.out.rd hR ((HO.out.then o1).then o2))).mono ?_
       rintro e w3 ⟨rfl, b3⟩
       go_wp2_with fail
       refine (HC2.out _ (HM.out.rd hR (((HO.out.then o1).then o2).thenB b3))).mono ?_
       rintro e w4 ⟨rfl, rfl⟩
       go_wp2
       go_ret2
       exact VOut.bad HVN2.out (((HO.out.then o1).then o2).thenB b3)
      ·have HVN2 : Hid (o = some (x, r2)) := hid (by rw [HVN.out, if_neg h60]; rfl)
       have HC2 := hid (fun W (hm : ML W) => HC.out W hm false (decide_eq_false h60))
       clear HVN HC h60
       go_wp2_with fail
       refine HT.out.mono ?_
       rintro e w1 ⟨rfl, k1, o1⟩
       go_wp2_with fail
       refine (HU.out _ k1 (HM.out.rd hR (HO.out.then o1))).mono ?_
       rintro e w2 ⟨rfl, k2, o2⟩
       go_wp2_with fail
       refine (HW2.out _ (HM.out.rd hR ((HO.out.then o1).then o2))).mono ?_
       rintro e w3 ⟨rfl, b3⟩
       have HK3 := hid (k2.below b3)
       clear k1 k2
       go_wp2_with fail
       refine (HC2.out _ (HM.out.rd hR (((HO.out.then o1).then o2).thenB b3))).mono ?_
       rintro e w4 ⟨rfl, rfl⟩
       go_wp2
       go_ret2
       exact VOut.good HVN2.out HK3.out (((HO.out.then o1).then o2).thenB b3)
   ·have HT := hid (take_no HK.out hw)
    have HNE := hid hne
    clear hw hne
    go_wp2_with fail
    refine HT.out.mono ?_
    rintro e w1 ⟨rfl, k1, o1⟩
    have HK1 := hid k1
    have HB1 := hid (o1.blk HB.out (by omega))
    clear k1
    go_wp2
    go_roundw
    case rel => exact .inr (.inr ⟨rfl, hid (HO.out.then o1), hid ⟨HN34.out, HNE.out⟩⟩)
    case measure => decide
  ·have HVN : Hid (o = none) := hid (by rw [← HV.out]; exact value_not HNN.out.1 HNN.out.2)
   go_wp2
   go_ret2
   exact VOut.bad (x := []) HVN.out HO.out
abbrev TAt : TypeId := 131
abbrev TQu : TypeId := 110
theorem three_set {B : Nat} {T : TypeId} {x y z a b c : Value} {w : World} (h : Blk B (.cells #[x, y, z] T (0, 0)) w) : Blk B (.cells #[a, b, c] T (0, 0)) (((w.setCell ⟨B, 0, none⟩ a).setCell ⟨B, 1, none⟩ b).setCell ⟨B, 2, none⟩ c) := by
 have := ((h.set 0 a).set 1 b).set 2 c
 simpa using this
theorem Blk.alloc8 {B : Nat} {o o' : Obj} {w : World} (h : Blk B o w) : Blk B o (w.alloc o') := (Off.of_below ((Below.refl _ _).alloc (Nat.le_refl _) o')).blk h (fun h => h)
theorem below_alloc8 (w : World) (o : Obj) : Below w.heap.size w (w.alloc o) := (Below.refl _ _).alloc (Nat.le_refl _) o
abbrev ZA : Obj := .cells #[.string ⟨#[]⟩, .string ⟨#[]⟩, .string ⟨#[]⟩] TAt (0, 0)
def AOut (R n : Nat) (sc : Value) (w : World) (o : Option (XM × Bt)) (e : Ending) (w' : World) : Prop :=
 (∃ x y z : Bt, e = .returned (.tuple #[.agg #[.string (bs x), .string (bs y), .string (bs z)], .bool o.isSome]) ∧ ∀ m r, o = some (m, r) → x = m.1.1 ∧ y = m.1.2 ∧ z = m.2) ∧ (∀ m r, o = some (m, r) → RS R r n sc w') ∧ Off (fun b => b = R) w w'
theorem AOut.bad {R n : Nat} {sc : Value} {w w' : World} {o : Option (XM × Bt)} {x y z : Bt} (h : o = none) (ho : Off (fun b => b = R) w w') : AOut R n sc w o (.returned (.tuple #[.agg #[.string (bs x), .string (bs y), .string (bs z)], .bool false])) w' := by
 subst h
 exact ⟨⟨x, y, z, rfl, fun _ _ h => (by cases h)⟩, fun _ _ h => (by cases h), ho⟩
theorem AOut.good {R n : Nat} {sc : Value} {w w' : World} {o : Option (XM × Bt)} {m : XM} {r : Bt} (h : o = some (m, r)) (hr : RS R r n sc w') (ho : Off (fun b => b = R) w w') : AOut R n sc w o (.returned (.tuple #[.agg #[.string (bs m.1.1), .string (bs m.1.2), .string (bs m.2)], .bool true])) w' := by
 subst h
 exact ⟨⟨_, _, _, rfl, fun _ _ h => (by cases h; exact ⟨rfl, rfl, rfl⟩)⟩, fun _ _ h => (by cases h; exact hr), ho⟩
set_option maxRecDepth 100000 in
set_option maxHeartbeats 1000000 in
theorem attr_any {R : Nat} {s : Bt} {n : Nat} {sc : Value} {w : World} (h : RS R s n sc w) (hm : ML w) (hR : 0 ≠ R) (hs : s.length ≤ 100000) :
    Calls Tryz.prog 101 #[.pointer (some ⟨R, 0, none⟩)] w (AOut R n sc w (attrL s)) := by
 have HM := hid hm
 have hlt := h.lt
 have H0 := hid (h.below (below_alloc8 w ZA))
 have HQ := hid (fun W (hW : RS R s n sc W) => qual_any hW (by omega))
 have HE : Hid (attrL s = match markL s with
  | none => none
  | some (m, r) => match wordL [61] (blanksL r) with
   | none => none
   | some r => (valueL (blanksL r)).map fun x => ((m, x.1), x.2)) := hid rfl
 obtain ⟨o, ho⟩ : ∃ o, attrL s = o := ⟨_, rfl⟩
 rw [ho] at HE ⊢
 have HL : Hid (∀ m r, markL s = some (m, r) → r.length < s.length) := hid (fun m r h => mark_len h)
 clear ho h hm
 generalize markL s = mo at *
 cases mo with
 | none =>
  have HO : Hid (o = none) := HE
  go_enter Tryz.func101, Tryz.ntmps101
  go_wp2_with fail
  refine (HQ.out _ H0.out).mono ?_
  rintro e w1 ⟨⟨x, y, rfl, hxy⟩, k1, o1⟩
  have HO1 := hid ((Off.ofB (F := fun b => b = R) (below_alloc8 w ZA)).then o1)
  have hl1 : w.heap.size < w1.heap.size := by have := o1.size; simp at this; omega
  have hBw1 : Blk w.heap.size ZA w1 := o1.blk (Blk.new _ _) (by omega)
  have e0 := hBw1.cell 0
  have e1 := hBw1.cell 1
  have e2 := hBw1.cell 2
  have g0 := hBw1.free 0
  have g1 := hBw1.free 1
  have g2 := hBw1.free 2
  have HBw1 := hid hBw1
  clear hBw1
  go_wp2
  have hE := (three_set (a := .string ⟨#[]⟩) (b := .string ⟨#[]⟩) (c := .string ⟨#[]⟩) HBw1.out).alloc8 (o' := .cells #[.string (bs x), .string (bs y)] TQu)
  have d0 := hE.cell 0
  have d1 := hE.cell 1
  have d2 := hE.cell 2
  have hsz := Nat.le_refl w.heap.size
  exact bodyPost_ret (v := .tuple #[.agg #[.string ⟨#[]⟩, .string ⟨#[]⟩, .string ⟨#[]⟩], .bool false]) (by simp [results, Tryz.results101, go_sem, d0, d1, d2]) rfl (AOut.bad (x := []) (y := []) (z := []) HO.out ((((HO1.out.new hsz _ _).new hsz _ _).new hsz _ _).thenB (below_alloc8 _ _)))
 | some mr =>
  obtain ⟨m, r1⟩ := mr
  have hr1 := HL.out m r1 rfl
  have HE1 : Hid (o = match wordL [61] (blanksL r1) with | none => none | some r => (valueL (blanksL r)).map fun x => ((m, x.1), x.2)) := HE
  have hb1 := blanks_le r1
  have HS := hid (fun W (hW : RS R r1 n sc W) => skip_any hW)
  obtain ⟨u, hu⟩ : ∃ u, blanksL r1 = u := ⟨_, rfl⟩
  rw [hu] at HE1 HS hb1
  generalize decide (u.length < r1.length) = bo at *
  clear hu HE HL
  cases hw : wordL [61] u with
  | none =>
   have HO : Hid (o = none) := hid (by rw [HE1.out, hw])
   have HT := hid (fun W (hW : RS R u n sc W) => take_no hW hw)
   clear hw HE1
   go_enter Tryz.func101, Tryz.ntmps101
   go_wp2_with fail
   refine (HQ.out _ H0.out).mono ?_
   rintro e w1 ⟨⟨x, y, rfl, hxy⟩, k1, o1⟩
   have HO1 := hid ((Off.ofB (F := fun b => b = R) (below_alloc8 w ZA)).then o1)
   have hl1 : w.heap.size < w1.heap.size := by have := o1.size; simp at this; omega
   have hx := hxy m r1 rfl
   obtain ⟨rfl, rfl⟩ := hx
   have HK1 := hid ((k1 m r1 rfl).below (below_alloc8 w1 (.cells #[.string (bs m.1), .string (bs m.2)] TQu (0, 0))))
   have HB1 : Hid (Blk w.heap.size ZA (w1.alloc (.cells #[.string (bs m.1), .string (bs m.2)] TQu))) := hid (Blk.alloc8 (o1.blk (Blk.new _ _) (by omega)))
   have HQ1 : Hid (Blk w1.heap.size (.cells #[.string (bs m.1), .string (bs m.2)] TQu (0, 0)) (w1.alloc (.cells #[.string (bs m.1), .string (bs m.2)] TQu))) := hid (Blk.new _ _)
   have HO2 := hid (HO1.out.thenB (below_alloc8 w1 (.cells #[.string (bs m.1), .string (bs m.2)] TQu (0, 0))))
   have hR1 : R < w1.heap.size := by omega
   clear k1 hxy HO1
   go_wp2_with fail
   refine (HS.out _ HK1.out).mono ?_
   rintro e w2 ⟨rfl, k2, o2⟩
   go_wp2_with fail
   refine (HT.out _ k2).mono ?_
   rintro e w3 ⟨rfl, k3, o3⟩
   have hl3 : w.heap.size < w3.heap.size := by have := (o2.then o3).size; simp at this; omega
   clear k2 k3
   have hBw3 : Blk w.heap.size ZA w3 := (o2.then o3).blk HB1.out (by omega)
   have e0 := hBw3.cell 0
   have e1 := hBw3.cell 1
   have e2 := hBw3.cell 2
   have g0 := hBw3.free 0
   have g1 := hBw3.free 1
   have g2 := hBw3.free 2
   have HBw3 := hid hBw3
   clear hBw3
   go_wp2
   have hE := three_set (a := .string ⟨#[]⟩) (b := .string ⟨#[]⟩) (c := .string ⟨#[]⟩) HBw3.out
   have d0 := hE.cell 0
   have d1 := hE.cell 1
   have d2 := hE.cell 2
   have hsz := Nat.le_refl w.heap.size
   exact bodyPost_ret (v := .tuple #[.agg #[.string ⟨#[]⟩, .string ⟨#[]⟩, .string ⟨#[]⟩], .bool false]) (by simp [results, Tryz.results101, go_sem, d0, d1, d2]) rfl (AOut.bad (x := []) (y := []) (z := []) HO.out (((((HO2.out.then o2).then o3).new hsz _ _).new hsz _ _).new hsz _ _))
  | some r2 =>
   have hr2 := word_len hw
   simp only [List.length_cons, List.length_nil] at hr2
   have HE2 : Hid (o = (valueL (blanksL r2)).map fun x => ((m, x.1), x.2)) := hid (by rw [HE1.out, hw])
   have HT := hid (fun W (hW : RS R u n sc W) => take_yes hW hw)
   have hb2 := blanks_le r2
   have HS2 := hid (fun W (hW : RS R r2 n sc W) => skip_any hW)
   obtain ⟨v, hv⟩ : ∃ u, blanksL r2 = u := ⟨_, rfl⟩
   rw [hv] at HE2 HS2 hb2
   generalize decide (v.length < r2.length) = bo2 at *
   have HV := hid (fun W (hW : RS R v n sc W) (hm : ML W) => value_any hW hm hR (by omega))
   clear hw HE1 hv
   cases hvo : valueL v with
   | none =>
    have HO : Hid (o = none) := hid (by rw [HE2.out, hvo]; rfl)
    rw [hvo] at HV
    clear hvo HE2
    go_enter Tryz.func101, Tryz.ntmps101
    go_wp2_with fail
    refine (HQ.out _ H0.out).mono ?_
    rintro e w1 ⟨⟨x, y, rfl, hxy⟩, k1, o1⟩
    have HO1 := hid ((Off.ofB (F := fun b => b = R) (below_alloc8 w ZA)).then o1)
    have hl1 : w.heap.size < w1.heap.size := by have := o1.size; simp at this; omega
    have hx := hxy m r1 rfl
    obtain ⟨rfl, rfl⟩ := hx
    have HK1 := hid ((k1 m r1 rfl).below (below_alloc8 w1 (.cells #[.string (bs m.1), .string (bs m.2)] TQu (0, 0))))
    have HB1 : Hid (Blk w.heap.size ZA (w1.alloc (.cells #[.string (bs m.1), .string (bs m.2)] TQu))) := hid (Blk.alloc8 (o1.blk (Blk.new _ _) (by omega)))
    have HQ1 : Hid (Blk w1.heap.size (.cells #[.string (bs m.1), .string (bs m.2)] TQu (0, 0)) (w1.alloc (.cells #[.string (bs m.1), .string (bs m.2)] TQu))) := hid (Blk.new _ _)
    have HO2 := hid (HO1.out.thenB (below_alloc8 w1 (.cells #[.string (bs m.1), .string (bs m.2)] TQu (0, 0))))
    have hR1 : R < w1.heap.size := by omega
    clear k1 hxy HO1
    go_wp2_with fail
    refine (HS.out _ HK1.out).mono ?_
    rintro e w2 ⟨rfl, k2, o2⟩
    go_wp2_with fail
    refine (HT.out _ k2).mono ?_
    rintro e w3 ⟨rfl, k3, o3⟩
    go_wp2_with fail
    refine (HS2.out _ k3).mono ?_
    rintro e w4 ⟨rfl, k4, o4⟩
    have HO4 := hid (((HO2.out.then o2).then o3).then o4)
    go_wp2_with fail
    refine (HV.out _ k4 (HM.out.rd hR HO4.out)).mono ?_
    rintro e w5 ⟨⟨z, rfl, hz⟩, k5, o5⟩
    have HOX := hid ((((o2).then o3).then o4).then o5)
    have HO5 := hid (HO4.out.then o5)
    have hl5 : w.heap.size < w5.heap.size := by have := HOX.out.size; simp at this; omega
    have hq5 : w1.heap.size < w5.heap.size := by have := HOX.out.size; simp at this; omega
    have hQ5 := HOX.out.blk HQ1.out (by omega)
    have q0 := hQ5.cell 0
    have q1 := hQ5.cell 1
    clear k2 k3 k4 hQ5
    have hBw5 : Blk w.heap.size ZA w5 := HOX.out.blk HB1.out (by omega)
    have e0 := hBw5.cell 0
    have e1 := hBw5.cell 1
    have e2 := hBw5.cell 2
    have g0 := hBw5.free 0
    have g1 := hBw5.free 1
    have g2 := hBw5.free 2
    have HBw5 := hid hBw5
    clear hBw5
    clear k5 hz
    go_wp2
    have hE := three_set (a := .string (bs m.1)) (b := .string (bs m.2)) (c := .string (bs z)) HBw5.out
    have d0 := hE.cell 0
    have d1 := hE.cell 1
    have d2 := hE.cell 2
    have hsz := Nat.le_refl w.heap.size
    exact bodyPost_ret (v := .tuple #[.agg #[.string (bs m.1), .string (bs m.2), .string (bs z)], .bool false]) (by simp [results, Tryz.results101, go_sem, d0, d1, d2]) rfl (AOut.bad (x := m.1) (y := m.2) (z := z) HO.out (((HO5.out.new hsz _ _).new hsz _ _).new hsz _ _))
   | some vr =>
    obtain ⟨val, r3⟩ := vr
    have HO : Hid (o = some ((m, val), r3)) := hid (by rw [HE2.out, hvo]; rfl)
    rw [hvo] at HV
    clear hvo HE2
    go_enter Tryz.func101, Tryz.ntmps101
    go_wp2_with fail
    refine (HQ.out _ H0.out).mono ?_
    rintro e w1 ⟨⟨x, y, rfl, hxy⟩, k1, o1⟩
    have HO1 := hid ((Off.ofB (F := fun b => b = R) (below_alloc8 w ZA)).then o1)
    have hl1 : w.heap.size < w1.heap.size := by have := o1.size; simp at this; omega
    have hx := hxy m r1 rfl
    obtain ⟨rfl, rfl⟩ := hx
    have HK1 := hid ((k1 m r1 rfl).below (below_alloc8 w1 (.cells #[.string (bs m.1), .string (bs m.2)] TQu (0, 0))))
    have HB1 : Hid (Blk w.heap.size ZA (w1.alloc (.cells #[.string (bs m.1), .string (bs m.2)] TQu))) := hid (Blk.alloc8 (o1.blk (Blk.new _ _) (by omega)))
    have HQ1 : Hid (Blk w1.heap.size (.cells #[.string (bs m.1), .string (bs m.2)] TQu (0, 0)) (w1.alloc (.cells #[.string (bs m.1), .string (bs m.2)] TQu))) := hid (Blk.new _ _)
    have HO2 := hid (HO1.out.thenB (below_alloc8 w1 (.cells #[.string (bs m.1), .string (bs m.2)] TQu (0, 0))))
    have hR1 : R < w1.heap.size := by omega
    clear k1 hxy HO1
    go_wp2_with fail
    refine (HS.out _ HK1.out).mono ?_
    rintro e w2 ⟨rfl, k2, o2⟩
    go_wp2_with fail
    refine (HT.out _ k2).mono ?_
    rintro e w3 ⟨rfl, k3, o3⟩
    go_wp2_with fail
    refine (HS2.out _ k3).mono ?_
    rintro e w4 ⟨rfl, k4, o4⟩
    have HO4 := hid (((HO2.out.then o2).then o3).then o4)
    go_wp2_with fail
    refine (HV.out _ k4 (HM.out.rd hR HO4.out)).mono ?_
    rintro e w5 ⟨⟨z, rfl, hz⟩, k5, o5⟩
    have HOX := hid ((((o2).then o3).then o4).then o5)
    have HO5 := hid (HO4.out.then o5)
    have hl5 : w.heap.size < w5.heap.size := by have := HOX.out.size; simp at this; omega
    have hq5 : w1.heap.size < w5.heap.size := by have := HOX.out.size; simp at this; omega
    have hQ5 := HOX.out.blk HQ1.out (by omega)
    have q0 := hQ5.cell 0
    have q1 := hQ5.cell 1
    clear k2 k3 k4 hQ5
    have hBw5 : Blk w.heap.size ZA w5 := HOX.out.blk HB1.out (by omega)
    have e0 := hBw5.cell 0
    have e1 := hBw5.cell 1
    have e2 := hBw5.cell 2
    have g0 := hBw5.free 0
    have g1 := hBw5.free 1
    have g2 := hBw5.free 2
    have HBw5 := hid hBw5
    clear hBw5
    obtain rfl := hz val r3 rfl
    have HK5 := hid (k5 z r3 rfl)
    clear k5 hz
    go_wp2
    have hE := three_set (a := .string (bs m.1)) (b := .string (bs m.2)) (c := .string (bs z)) HBw5.out
    have d0 := hE.cell 0
    have d1 := hE.cell 1
    have d2 := hE.cell 2
    have hsz := Nat.le_refl w.heap.size
    exact bodyPost_ret (v := .tuple #[.agg #[.string (bs m.1), .string (bs m.2), .string (bs z)], .bool true]) (by simp [results, Tryz.results101, go_sem, d0, d1, d2]) rfl (AOut.good (m := (m, z)) HO.out (((HK5.out.off (off_set8 _ _ _ _) (by omega)).off (off_set8 _ _ _ _) (by omega)).off (off_set8 _ _ _ _) (by omega)) (((HO5.out.new hsz _ _).new hsz _ _).new hsz _ _))
end Go.Proofs.YtklcjimmbkpbdaaGreatDoor
