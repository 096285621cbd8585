/-
  Of the proofs of layer 7 (values of JSON): the parts PHv PF PI. No conditions.
-/
import Derived.Test.YtchgelfomnbpaaaDoorZ07
import Derived.Test.YtchgelfomnbpaaaDoorZ13
namespace Go.Proofs.YtchgelfomnbpaaaDoor
open Go.Lib

/-- Read, or nothing that could be read stands there: a number that ends ahead of a digit. -/
def GoodV (d : Nat) (s : Bt) (v : JV) (r : Bt) : Prop := valX d s = .ok (v, r) ∨ valX d s = .error 70 ∧ ∃ c t, r = c :: t ∧ isD 10 c = true
def opnB (obj : Bool) : UInt8 := if obj then 123 else 91
/-- What stands behind the bracket that opens. -/
def insF (d : Nat) (obj : Bool) (s : Bt) : Except Int (JV × Bt) :=
  if d = 24 then .error 71 else if (blanksL s).head? = some (endC obj) then .ok (.mk (kindC obj) [] [] [], (blanksL s).drop 1) else loopX d obj [] [] (blanksL s)
theorem valX_open {d : Nat} {s r : Bt} {obj : Bool} (h : blanksL s = opnB obj :: r) : valX d s = insF d obj r := by
  rw [valX_eq, ← valS_blanks, h]
  have hb : isBl (opnB obj) = false := by cases obj <;> decide
  have h1 : opnB obj ≠ 110 := by cases obj <;> decide
  have h2 : opnB obj ≠ 102 := by cases obj <;> decide
  have h3 : opnB obj ≠ 116 := by cases obj <;> decide
  have h4 : opnB obj ≠ 34 := by cases obj <;> decide
  have h5 : ¬ (opnB obj ≠ 91 ∧ opnB obj ≠ 123) := by cases obj <;> decide
  have h6 : decide (opnB obj = 123) = obj := by cases obj <;> decide
  rw [valS_other _ _ hb h1 h2 h3, if_neg h4, if_neg h5, h6]
  rfl
theorem valX_null {d : Nat} {s t : Bt} (ht : blanksL s = t) (h : nullW.isPrefixOf t = true) : valX d s = .ok (.mk 0 [] [] [], t.drop 4) := by
  rw [valX_eq]
  unfold valS
  dsimp only
  rw [ht, if_pos h]
theorem valX_false {d : Nat} {s t : Bt} (ht : blanksL s = t) (h0 : nullW.isPrefixOf t = false) (h : falseW.isPrefixOf t = true) : valX d s = .ok (.mk 1 [] [] [], t.drop 5) := by
  rw [valX_eq]
  unfold valS
  dsimp only
  rw [ht, if_neg (by rw [h0]; decide), if_pos h]
theorem valX_true {d : Nat} {s t : Bt} (ht : blanksL s = t) (h0 : nullW.isPrefixOf t = false) (h1 : falseW.isPrefixOf t = false) (h : trueW.isPrefixOf t = true) : valX d s = .ok (.mk 2 [] [] [], t.drop 4) := by
  rw [valX_eq]
  unfold valS
  dsimp only
  rw [ht, if_neg (by rw [h0]; decide), if_neg (by rw [h1]; decide), if_pos h]
theorem pre_head {c : UInt8} {t : Bt} : ([c] : Bt).isPrefixOf t = true ↔ t.head? = some c := by
  cases t with
  | nil => exact ⟨fun h => (by cases h), fun h => (by cases h)⟩
  | cons a t =>
    by_cases h : c = a
    · subst h
      exact ⟨fun _ => rfl, fun _ => by show (c == c && _) = true; rw [beq_self_eq_true]; rfl⟩
    · rw [pre_ne h]
      exact ⟨fun h => (by cases h), fun e => absurd (Option.some.inj e).symm h⟩
/-- Neither a word nor a bracket. -/
structure Bare (t : Bt) : Prop where
  list : ([91] : Bt).isPrefixOf t = false
  obj : ([123] : Bt).isPrefixOf t = false
  null : nullW.isPrefixOf t = false
  no : falseW.isPrefixOf t = false
  yes : trueW.isPrefixOf t = false
theorem valX_bare {d : Nat} {s t : Bt} (ht : blanksL s = t) (h : Bare t) : valX d s = if t.head? = some 34 then (match textL t with | none => .error 70 | some (x, r) => .ok (.mk 4 x [] [], r)) else if numLen t = 0 then .error 70 else .ok (.mk 3 (t.take (numLen t)) [] [], t.drop (numLen t)) := by
  rw [valX_eq]
  unfold valS
  dsimp only
  have h1 : t.head? ≠ some 91 := fun e => by have := pre_head.2 e; rw [h.list] at this; cases this
  have h2 : t.head? ≠ some 123 := fun e => by have := pre_head.2 e; rw [h.obj] at this; cases this
  rw [ht, if_neg (by rw [h.null]; decide), if_neg (by rw [h.no]; decide), if_neg (by rw [h.yes]; decide)]
  congr 1
  rw [if_pos ⟨h1, h2⟩]
theorem numF_quote (t : Bt) : numF (34 :: t) = none := by
  unfold numF wholeF digF
  rw [show signL (34 :: t) = 0 from rfl]
  rfl
/-- A number stands there, the program says. -/
theorem valX_num {d : Nat} {s t r : Bt} (ht : blanksL s = t) (h : Bare t) (hn : numF t = some r) : GoodV d s (.mk 3 (t.take (t.length - r.length)) [] []) r := by
  have h34 : t.head? ≠ some 34 := fun e => by
    cases t with
    | nil => cases e
    | cons c u =>
      have : c = 34 := Option.some.inj e
      subst this
      rw [numF_quote] at hn
      cases hn
  have hv := valX_bare (d := d) ht h
  rw [if_neg h34] at hv
  obtain ⟨n1, n2⟩ := num_two t
  by_cases h0 : numLen t = 0
  · rw [if_pos h0] at hv
    rcases n2 h0 with e | ⟨c, x, e, hc⟩
    · rw [e] at hn; cases hn
    · rw [e] at hn
      exact .inr ⟨hv, c, x, (Option.some.inj hn).symm, hc⟩
  · rw [if_neg h0] at hv
    have e := n1 h0
    rw [hn] at e
    have e2 := Option.some.inj e
    left
    rw [hv, e2, List.length_drop]
    have := numLen_le t
    rw [show t.length - (t.length - numLen t) = numLen t by omega]
theorem text_quote {t x r : Bt} (h : textL t = some (x, r)) : t.head? = some 34 := by
  cases t with
  | nil => cases h
  | cons c u =>
    by_cases hc : c = 34
    · rw [hc]; rfl
    · unfold textL at h
      dsimp only at h
      rw [if_neg hc] at h
      cases h
theorem valX_text {d : Nat} {s t x r : Bt} (ht : blanksL s = t) (h : Bare t) (hx : textL t = some (x, r)) : valX d s = .ok (.mk 4 x [] [], r) := by
  rw [valX_bare ht h, if_pos (text_quote hx), hx]
theorem valX_none {d : Nat} {s t : Bt} (ht : blanksL s = t) (h : Bare t) (hn : numF t = none) (hx : textL t = none) : valX d s = .error 70 := by
  rw [valX_bare ht h, hx]
  have h0 : numLen t = 0 := Classical.byContradiction fun h0 => by
    have := (num_two t).1 h0
    rw [hn] at this
    cases this
  rw [if_pos h0]
  split <;> rfl
/-- Behind a member. -/
theorem loopX_good {d : Nat} {obj : Bool} {ns ns' : List Bt} {vs : List JV} {s s1 r : Bt} {v : JV} (hn : namesL obj ns s = some (ns', s1)) (hv : valX (d + 1) s1 = .ok (v, r)) :
    (∀ x, blanksL r = 44 :: x → loopX d obj ns vs s = loopX d obj ns' (vs ++ [v]) x) ∧ (∀ x, blanksL r = endC obj :: x → loopX d obj ns vs s = .ok (.mk (kindC obj) [] ns' (vs ++ [v]), x)) ∧ (([44] : Bt).isPrefixOf (blanksL r) = false → ([endC obj] : Bt).isPrefixOf (blanksL r) = false → loopX d obj ns vs s = .error 70) := by
  have e : loopX d obj ns vs s = match blanksL r with
      | [] => .error 70
      | c :: x => if c = endC obj then .ok (.mk (kindC obj) [] ns' (vs ++ [v]), x) else if c ≠ 44 then .error 70 else loopX d obj ns' (vs ++ [v]) x := by
    rw [loopX_eq]
    unfold loopS
    rw [hn]
    dsimp only
    rw [hv]
    rfl
  refine ⟨fun x h => ?_, fun x h => ?_, fun h1 h2 => ?_⟩
  · rw [e, h]
    dsimp only
    rw [if_neg (by cases obj <;> decide), if_neg (by decide)]
  · rw [e, h]
    dsimp only
    rw [if_pos rfl]
  · rw [e]
    cases hb : blanksL r with
    | nil => rfl
    | cons c x =>
      rw [hb] at h1 h2
      dsimp only
      rw [if_neg (fun h => by subst h; simp [List.isPrefixOf] at h2), if_pos (fun h => by subst h; simp [List.isPrefixOf] at h1)]
theorem loopX_bad {d : Nat} {obj : Bool} {ns ns' : List Bt} {vs : List JV} {s s1 : Bt} {z : Int} (hn : namesL obj ns s = some (ns', s1)) (hv : valX (d + 1) s1 = .error z) : loopX d obj ns vs s = .error z := by
  rw [loopX_eq]
  unfold loopS
  rw [hn]
  dsimp only
  rw [hv]
theorem loopX_noname {d : Nat} {obj : Bool} {ns : List Bt} {vs : List JV} {s : Bt} (hn : namesL obj ns s = none) : loopX d obj ns vs s = .error 70 := by
  rw [loopX_eq]
  unfold loopS
  rw [hn]
/-- A digit is neither a comma nor an end. -/
theorem digit_pre {c : UInt8} {t : Bt} (h : isD 10 c = true) (obj : Bool) : blanksL (c :: t) = c :: t ∧ ([44] : Bt).isPrefixOf (c :: t) = false ∧ ([endC obj] : Bt).isPrefixOf (c :: t) = false := by
  obtain ⟨_, _, _, _, h1, h2, h3, h4⟩ := digit_ne h
  refine ⟨blanks_keep h4 t, ?_, ?_⟩
  · simp [List.isPrefixOf, Ne.symm h1]
  · cases obj <;> simp [List.isPrefixOf, endC, Ne.symm h2, Ne.symm h3]
theorem names_stay {obj : Bool} {ns ns' : List Bt} {s r : Bt} (h : namesL obj ns s = some (ns', r)) : (obj = false → ns' = ns ∧ r = s) ∧ (obj = true → ∃ x, memberL s = some (x, r) ∧ ns' = ns ++ [x]) := by
  unfold namesL at h
  cases obj with
  | false => cases h; exact ⟨fun _ => ⟨rfl, rfl⟩, fun h => by cases h⟩
  | true =>
    refine ⟨fun h => (by cases h), fun _ => ?_⟩
    cases hm : memberL s with
    | none => rw [hm] at h; cases h
    | some y =>
      rw [hm] at h
      obtain ⟨x, r'⟩ := y
      cases h
      exact ⟨x, rfl, rfl⟩
theorem member_text {s x r : Bt} (h : textL (blanksL s) = some (x, r)) : memberL s = match blanksL r with | [] => none | c :: u => if c = 58 then some (x, u) else none := by
  unfold memberL
  rw [h]
  rfl
theorem member_notext {s : Bt} (h : textL (blanksL s) = none) : memberL s = none := by
  unfold memberL
  rw [h]
theorem member_colon {s x r : Bt} (h : textL (blanksL s) = some (x, r)) : (∀ u, ([58] : Bt).isPrefixOf (blanksL r) = true → (blanksL r).drop 1 = u → memberL s = some (x, u)) ∧ (([58] : Bt).isPrefixOf (blanksL r) = false → memberL s = none) := by
  rw [member_text h]
  cases hb : blanksL r with
  | nil => exact ⟨fun u h => (by cases h), fun _ => rfl⟩
  | cons c u =>
    dsimp only
    refine ⟨fun u' h e => ?_, fun h => ?_⟩
    · have := pre_head.1 h
      have : c = 58 := Option.some.inj this
      rw [if_pos this, ← e]
      rfl
    · rw [if_neg (fun e => by subst e; simp [List.isPrefixOf] at h)]
end Go.Proofs.YtchgelfomnbpaaaDoor
namespace Go.Proofs.YtchgelfomnbpaaaDoor
open Go.RowKit
open Go.Lib

abbrev zeroJ : Value := .agg #[.int .i64 0, .string ⟨#[]⟩, .slice none 0 0, .slice none 0 0]
/-- What the program's value answers. -/
def VOut (X d : Nat) (s : Bt) (w0 : World) (e : Ending) (w' : World) : Prop := Off (fun b => b = X) w0 w' ∧
  ((∃ v x r, GoodV d s v r ∧ e = .returned (.tuple #[x, .int .i64 0]) ∧ JR w' (fun b => w0.heap.size ≤ b ∧ b < w'.heap.size) v x ∧ PS X r d w') ∨
   (∃ z, valX d s = .error z ∧ z ≠ 0 ∧ e = .returned (.tuple #[zeroJ, .int .i64 z])))
/-- What the program's member answers. -/
def MOut (X V d : Nat) (k : Int) (obj : Bool) (ns : List Bt) (vs : List JV) (s : Bt) (w0 : World) (e : Ending) (w' : World) : Prop := Off (fun b => b = X ∨ V ≤ b) w0 w' ∧
  ((∃ ns' s1 v r nv lv cs T, namesL obj ns s = some (ns', s1) ∧ GoodV d s1 v r ∧ e = .returned (.int .i64 0) ∧ PS X r d w' ∧ MV V k nv lv cs T ns' (vs ++ [v]) w') ∨
   (∃ z, (namesL obj ns s = none ∧ z = 70 ∨ ∃ ns' s1, namesL obj ns s = some (ns', s1) ∧ valX d s1 = .error z) ∧ z ≠ 0 ∧ e = .returned (.int .i64 z)))
/-- Blocks from V on hold no table and no reader. -/
def AtV (X V : Nat) : Prop := X < V ∧ 0 < V ∧ 1 < V
theorem PS.offV {X V : Nat} {s : Bt} {d : Nat} {F : Nat → Prop} {w w' : World} (h : PS X s d w) (hV : AtV X V) (ho : Off F w w') (hF : ∀ b, F b → V ≤ b) : PS X s d w' :=
  h.off ho (fun h => by have := hF _ h; have := hV.1; omega) (fun h => by have := hF _ h; have := hV.2.1; omega) (fun h => by have := hF _ h; have := hV.2.2; omega)
set_option maxRecDepth 100000 in
set_option maxHeartbeats 4000000 in
theorem member_list {X V d : Nat} {s : Bt} {nv lv : Value} {cs : List Value} {T : Nat → Prop} {ns : List Bt} {vs : List JV} {w : World} (h : PS X s d w) (hXV : AtV X V) (M : MV V 5 nv lv cs T ns vs w) (hvl : vs.length ≤ 1000000)
    (HV : ∀ W, PS X s d W → Calls Tryd.prog 34 #[.pointer (some ⟨X, 0, none⟩)] W (VOut X d s W)) :
    Calls Tryd.prog 68 #[.pointer (some ⟨X, 0, none⟩), .pointer (some ⟨V, 0, none⟩)] w (MOut X V d 5 false ns vs s w) := by
  have m0 := M.blk.c0
  have H0 := Lib.hid h
  have HM := Lib.hid M
  have HVH := Lib.hid HV
  clear h M HV
  go_enter Tryd.func68, Tryd.ntmps68
  go_wp2_with fail
  refine (HVH.out _ H0.out).mono ?_
  clear HVH m0
  rintro e w4 ⟨o4, ⟨v, x, r, hv, rfl, hj, h4⟩ | ⟨z, hz, hz0, rfl⟩⟩
  · obtain ⟨x0, x1, x2, x3, rfl, hone⟩ := jr_one hj
    have hM4 : JZ w4.heap.size (w4.alloc (.cells #[.int .i64 0, .string ⟨#[]⟩, .slice none 0 0, .slice none 0 0] 28)) := Blk.new _ w4
    go_wp2_with (guard_target =~ Go.wpList _ _ _ ({ dst := none, op := Go.Op.store 28 _ _, type := _, pos := _, after := _, guard := none } :: _) _ _; refine st4 rfl rfl hone hM4 ?_)
    intro w5 hM5 o5
    have oA : Off (fun b => b = w4.heap.size) w4 w5 := ((Off.of_below ((Below.refl _ _).alloc (Nat.le_refl _) _)).mono (fun _ h => h.elim)).trans o5 (fun _ h => .inl h)
    have hVw : V < w.heap.size := HM.out.blk.lt
    have M4 := HM.out.off o4 (fun b hb => .inl (by rw [hb]; exact hXV.1))
    have M5 := M4.off oA (fun b hb => .inr (by rw [hb]; exact Nat.le_refl _))
    have hs4 := o4.size
    have hsA := oA.size
    go_upto_region 9 with fail
    refine regM (n := vs.length) (by kernel_rfl) (by simp) (by rfl) (by rfl) M5.blk hM5 hone M5.vals (by omega) (fun hb => by have := M4.lb hb; omega) hvl ?_
    intro y50 y52 lv' w6 hP
    obtain ⟨p1, p2, p3, p4⟩ := hP
    have hj5 : JR w5 (fun b => w.heap.size ≤ b ∧ b < w4.heap.size) v (.agg #[x0, x1, x2, x3]) := JR.off oA (fun b hb e => by omega) v _ hj
    have M6 := M5.push hj5 (fun b hb => ⟨by omega, by omega, fun h => by have := HM.out.nb h; omega, fun h => by have := HM.out.lb h; omega⟩) p1 p2 p3 p4
    have h6 : PS X r d w6 := (h4.offV hXV oA (fun b hb => by omega)).offV hXV p3 (fun b hb => by
      rcases hb with hb | hb
      · omega
      · have := M5.lb hb; omega)
    have o6 : Off (fun b => b = X ∨ V ≤ b) w w6 := ((o4.mono (fun _ h => .inl h)).trans oA (fun b h => .inl (.inr (by omega)))).trans p3 (fun b hb => .inl (.inr (by
      rcases hb with hb | hb
      · omega
      · have := M5.lb hb; omega)))
    have HM6 := Lib.hid M6
    have H6 := Lib.hid h6
    have HO := Lib.hid o6
    clear M6 h6 o6 p1 p2 p3 p4 M5 M4 hj5 hj h4 hM5 hM4 o5 oA
    go_wp2
    go_ret
    exact ⟨HO.out, .inl ⟨ns, s, v, r, _, _, _, _, rfl, hv, rfl, H6.out, HM6.out⟩⟩
  · have hM4 : JZ w4.heap.size (w4.alloc (.cells #[.int .i64 0, .string ⟨#[]⟩, .slice none 0 0, .slice none 0 0] 28)) := Blk.new _ w4
    have hVw : V < w.heap.size := HM.out.blk.lt
    have hs4 := o4.size
    go_wp2_with (guard_target =~ Go.wpList _ _ _ ({ dst := none, op := Go.Op.store 28 _ _, type := _, pos := _, after := _, guard := none } :: _) _ _; refine st4 rfl rfl ⟨rfl, rfl, rfl, rfl⟩ hM4 ?_)
    intro w5 hM5 o5
    have oA : Off (fun b => b = w4.heap.size) w4 w5 := ((Off.of_below ((Below.refl _ _).alloc (Nat.le_refl _) _)).mono (fun _ h => h.elim)).trans o5 (fun _ h => .inl h)
    have HO : Hid (Off (fun b => b = X ∨ V ≤ b) w w5) := Lib.hid ((o4.mono (fun _ h => .inl h)).trans oA (fun b h => .inl (.inr (by omega))))
    clear oA o5 o4 hM4 hM5
    have hzb : (z == 0) = false := by rw [beq_eq_false_iff_ne]; exact hz0
    go_wp2
    go_ret
    exact ⟨HO.out, .inr ⟨z, .inr ⟨ns, s, rfl, hz⟩, hz0, rfl⟩⟩
end Go.Proofs.YtchgelfomnbpaaaDoor
namespace Go.Proofs.YtchgelfomnbpaaaDoor
open Go.RowKit
open Go.Lib

theorem own_form7 {w : World} {B : Nat} {v : Value} {ns : List Bt} (h : OwT w B v ns) : ∃ A c, v = .slice A ns.length c := by
  rcases h.2 with ⟨e, h0⟩ | ⟨g, cap, cur, e, _⟩
  · exact ⟨none, 0, by rw [e, h0]⟩
  · exact ⟨_, cap, e⟩
theorem colon_none {s t r x : Bt} {ns : List Bt} (ht : blanksL s = t) (hx : textL t = some (x, r)) (h : ([58] : Bt).isPrefixOf (blanksL r) = false) : namesL true ns s = none := by
  unfold namesL
  rw [if_pos rfl, (member_colon (by rw [ht]; exact hx)).2 h]
  rfl
theorem colon_some {s t r x u : Bt} {ns : List Bt} (ht : blanksL s = t) (hx : textL t = some (x, r)) (h : ([58] : Bt).isPrefixOf (blanksL r) = true) (hu : (blanksL r).drop 1 = u) : namesL true ns s = some (ns ++ [x], u) := by
  unfold namesL
  rw [if_pos rfl, (member_colon (by rw [ht]; exact hx)).1 u h hu]
  rfl
theorem notext_none {s t : Bt} {ns : List Bt} (ht : blanksL s = t) (hx : textL t = none) : namesL true ns s = none := by
  unfold namesL
  rw [if_pos rfl, member_notext (by rw [ht]; exact hx)]
  rfl
set_option maxRecDepth 100000 in
set_option maxHeartbeats 4000000 in
theorem member_obj {X V d : Nat} {s : Bt} {nv lv : Value} {cs : List Value} {T : Nat → Prop} {ns : List Bt} {vs : List JV} {w : World} (h : PS X s d w) (hXV : AtV X V) (M : MV V 6 nv lv cs T ns vs w) (hvl : vs.length ≤ 1000000) (hnl : ns.length ≤ 1000000) (hs : s.length ≤ 100000)
    (HV : ∀ u W, u.length ≤ s.length → PS X u d W → Calls Tryd.prog 34 #[.pointer (some ⟨X, 0, none⟩)] W (VOut X d u W)) :
    Calls Tryd.prog 68 #[.pointer (some ⟨X, 0, none⟩), .pointer (some ⟨V, 0, none⟩)] w (MOut X V d 6 true ns vs s w) := by
  obtain ⟨t, ht⟩ : ∃ t, blanksL s = t := ⟨_, rfl⟩
  have htl : t.length ≤ s.length := by rw [← ht]; exact blanks_le s
  have HTX : Hid (∀ W, PS X s d W → Calls Tryd.prog 55 #[.pointer (some ⟨X, 0, none⟩)] W fun e w' => ∃ x ok r, e = .returned (.tuple #[.string (bs x), .bool ok]) ∧ textL t = (if ok then some (x, r) else none) ∧ PS X r d w' ∧ Off (fun b => b = X) W w') := Lib.hid (fun W hW => ptext_any hW ht (by omega))
  have m0 := M.blk.c0
  have H0 := Lib.hid h
  have HM := Lib.hid M
  have HVH := Lib.hid HV
  have HT := Lib.hid ht
  have HTL := Lib.hid htl
  clear h M HV ht htl
  go_enter Tryd.func68, Tryd.ntmps68
  go_wp2_with fail
  refine (HTX.out _ H0.out).mono ?_
  clear HTX m0
  rintro e w1 ⟨x, ok, r, rfl, hx, h1, o1⟩
  cases ok with
  | false =>
    have HN : Hid (namesL true ns s = none) := Lib.hid (notext_none HT.out hx)
    have HO : Hid (Off (fun b => b = X ∨ V ≤ b) w w1) := Lib.hid (o1.mono (fun _ h => .inl h))
    clear hx h1 o1
    go_wp2_with fail
    go_ret
    exact ⟨HO.out, .inr ⟨70, .inl ⟨HN.out, rfl⟩, by decide, rfl⟩⟩
  | true =>
    have hx : textL t = some (x, r) := hx
    obtain ⟨t2, ht2⟩ : ∃ t, blanksL r = t := ⟨_, rfl⟩
    obtain ⟨ob, hob⟩ : ∃ b, ([58] : Bt).isPrefixOf t2 = b := ⟨_, rfl⟩
    obtain ⟨u, hu⟩ : ∃ u, (if ob then t2.drop 1 else t2) = u := ⟨_, rfl⟩
    have HTK : Hid (Calls Tryd.prog 52 #[.pointer (some ⟨X, 0, none⟩), .string ⟨#[58]⟩] w1 fun e w' => e = .returned (.bool ob) ∧ PS X u d w' ∧ Off (fun b => b = X) w1 w') := Lib.hid (ptake_any h1 ht2 [58] ob hob hu)
    have HX := Lib.hid hx
    have HO1 := Lib.hid o1
    have HOB := Lib.hid hob
    have HU := Lib.hid hu
    have HT2 := Lib.hid ht2
    clear hx h1 o1 hob hu ht2
    go_wp2_with fail
    refine HTK.out.mono ?_
    clear HTK
    rintro e w2 ⟨rfl, h2, o2⟩
    cases ob with
    | false =>
      have HN : Hid (namesL true ns s = none) := Lib.hid (colon_none HT.out HX.out (by rw [HT2.out]; exact HOB.out))
      have HO : Hid (Off (fun b => b = X ∨ V ≤ b) w w2) := Lib.hid ((HO1.out.trans o2 (fun _ h => .inl h)).mono (fun _ h => .inl h))
      clear h2 o2
      go_wp2_with fail
      go_ret
      exact ⟨HO.out, .inr ⟨70, .inl ⟨HN.out, rfl⟩, by decide, rfl⟩⟩
    | true =>
      have hu : t2.drop 1 = u := HU.out
      have HN : Hid (namesL true ns s = some (ns ++ [x], u)) := Lib.hid (colon_some HT.out HX.out (by rw [HT2.out]; exact HOB.out) (by rw [HT2.out]; exact hu))
      have hul : u.length ≤ s.length := by
        have h1 := text_len HX.out
        have h2 := blanks_le r
        have h3 := HTL.out
        rw [HT2.out] at h2
        rw [← hu, List.length_drop]
        omega
      have HUL := Lib.hid hul
      have M2 := (HM.out.off HO1.out (fun b hb => .inl (by rw [hb]; exact hXV.1))).off o2 (fun b hb => .inl (by rw [hb]; exact hXV.1))
      have HM2 := Lib.hid M2
      have c2 := M2.blk.c2
      have HO2 : Hid (Off (fun b => b = X) w w2) := Lib.hid (HO1.out.trans o2 (fun _ h => .inl h))
      have H2 := Lib.hid h2
      have HNV := Lib.hid (own_form7 M2.names)
      clear h2 o2 hul hu M2
      obtain ⟨nA, nc, rfl⟩ := HNV.out
      clear HNV
      have HVL : Hid (V < w2.heap.size) := Lib.hid HM2.out.blk.lt
      go_wp2_with (at_builtin; refine appT7 rfl _ _ rfl w2 (V + 1) (.slice nA ns.length nc) ns x rfl HM2.out.names rfl hnl HVL.out ?_
                   intro nv5 w5 hn5 o5 hat5
                   obtain ⟨nA5, nc5, rfl⟩ : ∃ A c, nv5 = .slice A (ns.length + 1) c := by simpa using own_form7 hn5
                   have M5 := HM2.out.name hn5 o5 hat5
                   have HM5 := Lib.hid M5
                   have b5 := HM2.out.blk.off o5 (fun h => by have := HM2.out.nb h; omega)
                   have z2 := b5.c2
                   have zf := b5.free 2
                   have HO5 := Lib.hid o5
                   clear hn5 o5 hat5 M5 b5 c2)
      have o56 : Off (fun b => V ≤ b) w2 (w5.setCell ⟨V, 2, none⟩ (.slice nA5 (ns.length + 1) nc5)) := (HO5.out.mono (fun b hb => by have := HM2.out.nb hb; omega)).trans (off_set7 w5 V 2 _) (fun b hb => .inl (by rw [hb]; exact Nat.le_refl _))
      have h6 : PS X u d (w5.setCell ⟨V, 2, none⟩ (.slice nA5 (ns.length + 1) nc5)) := H2.out.offV hXV o56 (fun b hb => hb)
      have HO6 : Hid (Off (fun b => b = X ∨ V ≤ b) w (w5.setCell ⟨V, 2, none⟩ (.slice nA5 (ns.length + 1) nc5))) := Lib.hid ((HO2.out.mono (fun _ h => .inl h)).trans o56 (fun b hb => .inl (.inr hb)))
      clear o56 z2 zf HO5
      generalize w5.setCell ⟨V, 2, none⟩ (.slice nA5 (ns.length + 1) nc5) = w6 at *
      refine (HVH.out u _ HUL.out h6).mono ?_
      clear HVH h6 H2 HO2 HO1 HM2 HVL
      rintro e w4 ⟨o4, ⟨v, y, r4, hv, rfl, hj, h4⟩ | ⟨z, hz, hz0, rfl⟩⟩
      · obtain ⟨x0, x1, x2, x3, rfl, hone⟩ := jr_one hj
        have hM4 : JZ w4.heap.size (w4.alloc (.cells #[.int .i64 0, .string ⟨#[]⟩, .slice none 0 0, .slice none 0 0] 28)) := Blk.new _ w4
        go_wp2_with (guard_target =~ Go.wpList _ _ _ ({ dst := none, op := Go.Op.store 28 _ _, type := _, pos := _, after := _, guard := none } :: _) _ _; refine st4 rfl rfl hone hM4 ?_)
        intro w7 hM7 o7
        have oA : Off (fun b => b = w4.heap.size) w4 w7 := ((Off.of_below ((Below.refl _ _).alloc (Nat.le_refl _) _)).mono (fun _ h => h.elim)).trans o7 (fun _ h => .inl h)
        have hVw : V < w6.heap.size := HM5.out.blk.lt
        have M4 := HM5.out.off o4 (fun b hb => .inl (by rw [hb]; exact hXV.1))
        have M7 := M4.off oA (fun b hb => .inr (by rw [hb]; exact Nat.le_refl _))
        have hs4 := o4.size
        have hsA := oA.size
        go_upto_region 9 with fail
        refine regM (n := vs.length) (by kernel_rfl) (by simp) (by rfl) (by rfl) M7.blk hM7 hone M7.vals (by omega) (fun hb => by have := M4.lb hb; omega) hvl ?_
        intro y50 y52 lv' w8 hP
        obtain ⟨p1, p2, p3, p4⟩ := hP
        have hj7 : JR w7 (fun b => w6.heap.size ≤ b ∧ b < w4.heap.size) v (.agg #[x0, x1, x2, x3]) := JR.off oA (fun b hb e => by omega) v _ hj
        have M8 := M7.push hj7 (fun b hb => ⟨by omega, by omega, fun h => by have := HM5.out.nb h; omega, fun h => by have := HM5.out.lb h; omega⟩) p1 p2 p3 p4
        have h8 : PS X r4 d w8 := (h4.offV hXV oA (fun b hb => by omega)).offV hXV p3 (fun b hb => by
          rcases hb with hb | hb
          · omega
          · have := M7.lb hb; omega)
        have o8 : Off (fun b => b = X ∨ V ≤ b) w w8 := ((HO6.out.trans o4 (fun _ h => .inl (.inl h))).trans oA (fun b h => .inl (.inr (by omega)))).trans p3 (fun b hb => .inl (.inr (by
          rcases hb with hb | hb
          · omega
          · have := M7.lb hb; omega)))
        have HM8 := Lib.hid M8
        have H8 := Lib.hid h8
        have HO := Lib.hid o8
        clear M8 h8 o8 p1 p2 p3 p4 M7 M4 hj7 hj h4 hM7 hM4 o7 oA o4
        go_wp2
        go_ret
        exact ⟨HO.out, .inl ⟨ns ++ [x], u, v, r4, _, _, _, _, HN.out, hv, rfl, H8.out, HM8.out⟩⟩
      · have hM4 : JZ w4.heap.size (w4.alloc (.cells #[.int .i64 0, .string ⟨#[]⟩, .slice none 0 0, .slice none 0 0] 28)) := Blk.new _ w4
        have hVw : V < w6.heap.size := HM5.out.blk.lt
        have hs4 := o4.size
        go_wp2_with (guard_target =~ Go.wpList _ _ _ ({ dst := none, op := Go.Op.store 28 _ _, type := _, pos := _, after := _, guard := none } :: _) _ _; refine st4 rfl rfl ⟨rfl, rfl, rfl, rfl⟩ hM4 ?_)
        intro w7 hM7 o7
        have oA : Off (fun b => b = w4.heap.size) w4 w7 := ((Off.of_below ((Below.refl _ _).alloc (Nat.le_refl _) _)).mono (fun _ h => h.elim)).trans o7 (fun _ h => .inl h)
        have HO : Hid (Off (fun b => b = X ∨ V ≤ b) w w7) := Lib.hid ((HO6.out.trans o4 (fun _ h => .inl (.inl h))).trans oA (fun b h => .inl (.inr (by omega))))
        clear oA o7 o4 hM4 hM7
        have hzb : (z == 0) = false := by rw [beq_eq_false_iff_ne]; exact hz0
        go_wp2
        go_ret
        exact ⟨HO.out, .inr ⟨z, .inr ⟨ns ++ [x], u, HN.out, hz⟩, hz0, rfl⟩⟩
end Go.Proofs.YtchgelfomnbpaaaDoor
