/-
  Of the proofs of layer 8 (elements of XML): the parts XF XG XH. No conditions.
-/
import Derived.Test.YtklcjimmbkpbdaaGreatDoorZ17
namespace Go.Proofs.YtklcjimmbkpbdaaGreatDoor
open Go.RowKit
open Go.Lib

abbrev QV (m : XN) : Value := .agg #[.string (bs m.1), .string (bs m.2)]
theorem two_set {B : Nat} {T : TypeId} {x y a b : Value} {w : World} (h : Blk B (.cells #[x, y] T (0, 0)) w) : Blk B (.cells #[a, b] T (0, 0)) ((w.setCell ⟨B, 0, none⟩ a).setCell ⟨B, 1, none⟩ b) := by
  have := (h.set 0 a).set 1 b
  simpa using this
theorem Off.new {F : Nat → Prop} {w w' : World} {B : Nat} (h : Off F w w') (hB : w.heap.size ≤ B) (j : Nat) (v : Value) : Off F w (w'.setCell ⟨B, j, none⟩ v) := h.trans (off_set8 w' B j v) (fun x hx => .inr (by rw [hx]; exact hB))
/-- What the reader of a qualified name leaves. -/
def QOut (R n : Nat) (sc : Value) (w : World) (o : Option (XN × Bt)) (e : Ending) (w' : World) : Prop :=
  (∃ x y : Bt, e = .returned (.tuple #[.agg #[.string (bs x), .string (bs y)], .bool o.isSome]) ∧ ∀ m r, o = some (m, r) → x = m.1 ∧ y = m.2) ∧ (∀ m r, o = some (m, r) → RS R r n sc w') ∧ Off (fun b => b = R) w w'
set_option maxRecDepth 100000 in
theorem qual_any {R : Nat} {s : Bt} {n : Nat} {sc : Value} {w : World} (h : RS R s n sc w) (hs : s.length ≤ 1000000000) :
    Calls Tryz.prog 100 #[.pointer (some ⟨R, 0, none⟩)] w (QOut R n sc w (markL s)) := by
  have hlt := h.lt
  have hoa : ∀ o : Obj, Off (fun b => b = R) w (w.alloc o) := fun o => Off.ofB ((Below.refl _ _).alloc (Nat.le_refl _) o)
  have HN := Lib.hid (fun W (hW : RS R s n sc W) => name_any hW hs)
  have hk := nameW_le s
  obtain ⟨k, hkk⟩ : ∃ k, nameW s = k := ⟨_, rfl⟩
  have HMk : Hid (markL s = if nameW s = 0 then none else
    match wordL [58] (s.drop (nameW s)) with
    | none => some (([], s.take (nameW s)), s.drop (nameW s))
    | some r => if nameW r = 0 then none else some ((s.take (nameW s), r.take (nameW r)), r.drop (nameW r))) := Lib.hid rfl
  rw [hkk] at HN hk HMk
  obtain ⟨t, htt⟩ : ∃ t, s.drop k = t := ⟨_, rfl⟩
  obtain ⟨u, huu⟩ : ∃ u, s.take k = u := ⟨_, rfl⟩
  have htl : t.length ≤ 1000000000 := by rw [← htt, List.length_drop]; omega
  rw [htt, huu] at HN HMk
  obtain ⟨o, ho⟩ : ∃ o, markL s = o := ⟨_, rfl⟩
  rw [ho] at HMk ⊢
  have H0 := Lib.hid (h.below ((Below.refl _ _).alloc (Nat.le_refl _) (.cells #[.string ⟨#[]⟩, .string ⟨#[]⟩] 110)))
  clear h hkk htt huu ho
  by_cases hk0 : k = 0
  · subst hk0
    have HO : Hid (o = none) := Lib.hid (by rw [HMk.out, if_pos rfl])
    rw [decide_eq_false (show ¬ 0 < 0 by omega)] at HN
    clear HMk hk
    go_enter Tryz.func100, Tryz.ntmps100
    go_wp2_with fail
    refine (HN.out _ H0.out).mono ?_
    rintro e w1 ⟨rfl, k1, o1⟩
    have hB : Blk w.heap.size (.cells #[.string ⟨#[]⟩, .string ⟨#[]⟩] 110 (0, 0)) w1 := o1.blk (Blk.new _ _) (by omega)
    have e0 := hB.cell 0
    have e1 := hB.cell 1
    have g0 := hB.free 0
    have g1 := hB.free 1
    have HB := Lib.hid hB
    clear hB
    go_wp2
    have hE := two_set (a := .string ⟨#[]⟩) (b := .string (bs u)) HB.out
    have d0 := hE.cell 0
    have d1 := hE.cell 1
    exact bodyPost_ret (v := .tuple #[.agg #[.string ⟨#[]⟩, .string (bs u)], .bool false]) (by simp [results, Tryz.results100, go_sem, d0, d1]) rfl ⟨⟨[], u, by rw [HO.out]; rfl, fun m r h => (by rw [HO.out] at h; cases h)⟩, fun m r h => (by rw [HO.out] at h; cases h), ((((hoa _).then o1).new (Nat.le_refl _) _ _).new (Nat.le_refl _) _ _)⟩
  · rw [decide_eq_true (show 0 < k by omega)] at HN
    have HM2 : Hid (o = match wordL [58] t with | none => some (([], u), t) | some r => if nameW r = 0 then none else some ((u, r.take (nameW r)), r.drop (nameW r))) := Lib.hid (by rw [HMk.out, if_neg hk0])
    clear HMk hk hk0 hs
    cases hw : wordL [58] t with
    | none =>
      have HW := Lib.hid (fun W (hW : RS R t n sc W) => take_no hW hw)
      have HO : Hid (o = some (([], u), t)) := Lib.hid (by rw [HM2.out, hw])
      clear HM2 hw
      go_enter Tryz.func100, Tryz.ntmps100
      go_wp2_with fail
      refine (HN.out _ H0.out).mono ?_
      rintro e w1 ⟨rfl, k1, o1⟩
      go_wp2_with fail
      refine (HW.out _ k1).mono ?_
      rintro e w2 ⟨rfl, k2, o2⟩
      have hB : Blk w.heap.size (.cells #[.string ⟨#[]⟩, .string ⟨#[]⟩] 110 (0, 0)) w2 := (o1.then o2).blk (Blk.new _ _) (by omega)
      have e0 := hB.cell 0
      have e1 := hB.cell 1
      have g0 := hB.free 0
      have g1 := hB.free 1
      have HB := Lib.hid hB
      clear hB
      have HK := Lib.hid k2
      clear k1 k2
      go_wp2
      have hE := two_set (a := .string ⟨#[]⟩) (b := .string (bs u)) HB.out
      have d0 := hE.cell 0
      have d1 := hE.cell 1
      exact bodyPost_ret (v := .tuple #[.agg #[.string ⟨#[]⟩, .string (bs u)], .bool true]) (by simp [results, Tryz.results100, go_sem, d0, d1]) rfl ⟨⟨[], u, by rw [HO.out]; rfl, fun m r h => (by rw [HO.out] at h; cases h; exact ⟨rfl, rfl⟩)⟩, fun m r h => (by rw [HO.out] at h; cases h; exact (HK.out.off (off_set8 _ _ _ _) (by omega)).off (off_set8 _ _ _ _) (by omega)), (((((hoa _).then o1).then o2).new (Nat.le_refl _) _ _).new (Nat.le_refl _) _ _)⟩
    | some r =>
      have hl := word_len hw
      have HW := Lib.hid (fun W (hW : RS R t n sc W) => take_yes hW hw)
      have HN2 := Lib.hid (fun W (hW : RS R r n sc W) => name_any hW (by omega))
      have HM3 : Hid (o = if nameW r = 0 then none else some ((u, r.take (nameW r)), r.drop (nameW r))) := Lib.hid (by rw [HM2.out, hw])
      obtain ⟨q, hq⟩ : ∃ q, nameW r = q := ⟨_, rfl⟩
      obtain ⟨v, hv⟩ : ∃ v, r.take q = v := ⟨_, rfl⟩
      obtain ⟨r2, hr2⟩ : ∃ v, r.drop q = v := ⟨_, rfl⟩
      rw [hq, hv, hr2] at HN2 HM3
      clear HM2 hw hl hq hv hr2
      by_cases hq0 : q = 0
      · have HO : Hid (o = none) := Lib.hid (by rw [HM3.out, if_pos hq0])
        rw [decide_eq_false (show ¬ 0 < q by omega)] at HN2
        clear HM3 hq0
        go_enter Tryz.func100, Tryz.ntmps100
        go_wp2_with fail
        refine (HN.out _ H0.out).mono ?_
        rintro e w1 ⟨rfl, k1, o1⟩
        go_wp2_with fail
        refine (HW.out _ k1).mono ?_
        rintro e w2 ⟨rfl, k2, o2⟩
        go_wp2_with fail
        refine (HN2.out _ k2).mono ?_
        rintro e w3 ⟨rfl, k3, o3⟩
        have hB : Blk w.heap.size (.cells #[.string ⟨#[]⟩, .string ⟨#[]⟩] 110 (0, 0)) w3 := ((o1.then o2).then o3).blk (Blk.new _ _) (by omega)
        have e0 := hB.cell 0
        have e1 := hB.cell 1
        have g0 := hB.free 0
        have g1 := hB.free 1
        have HB := Lib.hid hB
        clear hB
        have HK := Lib.hid k3
        clear k1 k2 k3
        go_wp2
        have hE := two_set (a := .string (bs u)) (b := .string (bs v)) HB.out
        have d0 := hE.cell 0
        have d1 := hE.cell 1
        exact bodyPost_ret (v := .tuple #[.agg #[.string (bs u), .string (bs v)], .bool false]) (by simp [results, Tryz.results100, go_sem, d0, d1]) rfl ⟨⟨u, v, by rw [HO.out]; rfl, fun m r h => (by rw [HO.out] at h; cases h)⟩, fun m r h => (by rw [HO.out] at h; cases h), ((((((hoa _).then o1).then o2).then o3).new (Nat.le_refl _) _ _).new (Nat.le_refl _) _ _)⟩
      · have HO : Hid (o = some ((u, v), r2)) := Lib.hid (by rw [HM3.out, if_neg hq0])
        rw [decide_eq_true (show 0 < q by omega)] at HN2
        clear HM3 hq0
        go_enter Tryz.func100, Tryz.ntmps100
        go_wp2_with fail
        refine (HN.out _ H0.out).mono ?_
        rintro e w1 ⟨rfl, k1, o1⟩
        go_wp2_with fail
        refine (HW.out _ k1).mono ?_
        rintro e w2 ⟨rfl, k2, o2⟩
        go_wp2_with fail
        refine (HN2.out _ k2).mono ?_
        rintro e w3 ⟨rfl, k3, o3⟩
        have hB : Blk w.heap.size (.cells #[.string ⟨#[]⟩, .string ⟨#[]⟩] 110 (0, 0)) w3 := ((o1.then o2).then o3).blk (Blk.new _ _) (by omega)
        have e0 := hB.cell 0
        have e1 := hB.cell 1
        have g0 := hB.free 0
        have g1 := hB.free 1
        have HB := Lib.hid hB
        clear hB
        have HK := Lib.hid k3
        clear k1 k2 k3
        go_wp2
        have hE := two_set (a := .string (bs u)) (b := .string (bs v)) HB.out
        have d0 := hE.cell 0
        have d1 := hE.cell 1
        exact bodyPost_ret (v := .tuple #[.agg #[.string (bs u), .string (bs v)], .bool true]) (by simp [results, Tryz.results100, go_sem, d0, d1]) rfl ⟨⟨u, v, by rw [HO.out]; rfl, fun m r h => (by rw [HO.out] at h; cases h; exact ⟨rfl, rfl⟩)⟩, fun m r h => (by rw [HO.out] at h; cases h; exact (HK.out.off (off_set8 _ _ _ _) (by omega)).off (off_set8 _ _ _ _) (by omega)), ((((((hoa _).then o1).then o2).then o3).new (Nat.le_refl _) _ _).new (Nat.le_refl _) _ _)⟩
end Go.Proofs.YtklcjimmbkpbdaaGreatDoor
namespace Go.Proofs.YtklcjimmbkpbdaaGreatDoor
open Go.RowKit
open Go.Lib

/-- What the reader of a value leaves. -/
def VOut (R n : Nat) (sc : Value) (w : World) (o : Option (Bt × Bt)) (e : Ending) (w' : World) : Prop :=
  (∃ x : Bt, e = .returned (.tuple #[.string (bs x), .bool o.isSome]) ∧ ∀ v r, o = some (v, r) → x = v) ∧ (∀ v r, o = some (v, r) → RS R r n sc w') ∧ Off (fun b => b = R) w w'
theorem VOut.bad {R n : Nat} {sc : Value} {w w' : World} {o : Option (Bt × Bt)} {x : Bt} (h : o = none) (ho : Off (fun b => b = R) w w') : VOut R n sc w o (.returned (.tuple #[.string (bs x), .bool false])) w' := by
  subst h
  exact ⟨⟨x, rfl, fun _ _ h => (by cases h)⟩, fun _ _ h => (by cases h), ho⟩
theorem VOut.good {R n : Nat} {sc : Value} {w w' : World} {o : Option (Bt × Bt)} {x r : Bt} (h : o = some (x, r)) (hr : RS R r n sc w') (ho : Off (fun b => b = R) w w') : VOut R n sc w o (.returned (.tuple #[.string (bs x), .bool true])) w' := by
  subst h
  exact ⟨⟨x, rfl, fun _ _ h => (by cases h; rfl)⟩, fun _ _ h => (by cases h; exact hr), ho⟩
theorem cont60 (a : Bt) (hl : a.length ≤ 4000000000) (W : World) (hm : ML W) (b : Bool) (hb : decide ((60 : UInt8) ∈ a) = b) : Calls Tryz.prog 90 #[.string (bs a), .string ⟨#[60]⟩] W (fun e w' => e = .returned (.bool b) ∧ W = w') := by
  have := contL_any [60] a (List.cons_ne_nil _ _) hl W hm
  rw [to_mem, hb] at this
  exact this
theorem word_head {q : UInt8} {s : Bt} : (∃ r, s = q :: r ∧ wordL [q] s = some r) ∨ ((∀ r, s ≠ q :: r) ∧ wordL [q] s = none) := by
  cases s with
  | nil => exact .inr ⟨fun r h => (by cases h), word_nil _ _⟩
  | cons c r =>
    by_cases h : q = c
    · subst h
      exact .inl ⟨r, rfl, by rw [word_one, if_pos rfl]⟩
    · exact .inr ⟨fun r' h' => h (by injection h' with h1 _; exact h1.symm), by rw [word_one, if_neg h]⟩
theorem value_of {q : UInt8} {r : Bt} (hq : q = 34 ∨ q = 39) : valueL (q :: r) = match toL [q] r with
    | none => none
    | some (v, r') => if (60 : UInt8) ∈ v then none else (refsL (linesL v)).map fun x => (x, r') := by
  simp only [valueL]
  rw [if_pos hq]
  rfl
theorem value_not {s : Bt} (h1 : ∀ r, s ≠ 34 :: r) (h2 : ∀ r, s ≠ 39 :: r) : valueL s = none := by
  cases s with
  | nil => rfl
  | cons c r =>
    simp only [valueL]
    rw [if_neg]
    rintro (h | h)
    · exact h1 r (by rw [h])
    · exact h2 r (by rw [h])
set_option maxRecDepth 100000 in
set_option maxHeartbeats 2000000 in
theorem value_any {R : Nat} {s : Bt} {n : Nat} {sc : Value} {w : World} (h : RS R s n sc w) (hm : ML w) (hR : 0 ≠ R) (hs : s.length ≤ 100000) :
    Calls Tryz.prog 120 #[.pointer (some ⟨R, 0, none⟩)] w (VOut R n sc w (valueL s)) := by
  have HM := Lib.hid hm
  have hlt := h.lt
  have hba : Below w.heap.size w (w.alloc (.cells #[.string ⟨#[34]⟩, .string ⟨#[39]⟩] 9)) := (Below.refl _ _).alloc (Nat.le_refl _) _
  have HB0 : Hid (Blk w.heap.size (.cells #[.string ⟨#[34]⟩, .string ⟨#[39]⟩] 9 (0, 0)) (w.alloc (.cells #[.string ⟨#[34]⟩, .string ⟨#[39]⟩] 9))) := Lib.hid (Blk.new _ _)
  have H0 := Lib.hid (h.below hba)
  have HO0 : Hid (Off (fun b => b = R) w (w.alloc (.cells #[.string ⟨#[34]⟩, .string ⟨#[39]⟩] 9))) := Lib.hid (Off.ofB hba)
  obtain ⟨o, ho⟩ : ∃ o, valueL s = o := ⟨_, rfl⟩
  have HV := Lib.hid ho
  rw [ho]
  clear ho h hm hba
  go_enter Tryz.func120, Tryz.ntmps120
  go_wp2
  go_loopw [12] (fun i wr => (i = .int .i64 0 ∧ Hid (RS R s n sc wr) ∧ Hid (Off (fun b => b = R) w wr) ∧ Hid (Blk w.heap.size (.cells #[.string ⟨#[34]⟩, .string ⟨#[39]⟩] 9 (0, 0)) wr)) ∨ (i = .int .i64 1 ∧ Hid (RS R s n sc wr) ∧ Hid (Off (fun b => b = R) w wr) ∧ Hid (Blk w.heap.size (.cells #[.string ⟨#[34]⟩, .string ⟨#[39]⟩] 9 (0, 0)) wr) ∧ Hid (∀ r, s ≠ 34 :: r)) ∨ (i = .int .i64 2 ∧ Hid (Off (fun b => b = R) w wr) ∧ Hid ((∀ r, s ≠ 34 :: r) ∧ (∀ r, s ≠ 39 :: r)))) (fun i _ => 2 - (RowKit.intOf i).toNat)
  case atStart => exact .inl ⟨rfl, H0, HO0, HB0⟩
  case round =>
    clear H0 HO0 HB0
    rcases hrel with ⟨rfl, HK, HO, HB⟩ | ⟨rfl, HK, HO, HB, HN34⟩ | ⟨rfl, HO, HNN⟩
    · have c0 := HB.out.cell 0
      have c1 := HB.out.cell 1
      rcases word_head (q := 34) (s := s) with ⟨r, hsr, hw⟩ | ⟨hne, hw⟩
      · have HT := Lib.hid (take_yes HK.out hw)
        have HVO := Lib.hid (value_of (q := 34) (r := r) (by decide))
        rw [← hsr, HV.out] at HVO
        have hrl : r.length ≤ 100000 := by rw [hsr, List.length_cons] at hs; omega
        clear hw hsr hs
        cases ht : toL [34] r with
        | none =>
          have HU := Lib.hid (fun W (hW : RS R r n sc W) (hm : ML W) => upTo_any hW hm [34] (List.cons_ne_nil _ _) (by omega) r [] false (.inr ⟨ht, rfl, rfl, rfl⟩))
          have HW := Lib.hid (fun W (hm : ML W) => unwritten_any r hrl W hm)
          unfold UnwOut at HW
          have HVN : Hid (o = none) := Lib.hid (by rw [HVO.out, ht])
          generalize refsL (linesL r) = o2 at *
          clear ht HVO
          cases o2
          all_goals
            go_wp2_with fail
            refine HT.out.mono ?_
            rintro e w1 ⟨rfl, k1, o1⟩
            go_wp2_with fail
            refine (HU.out _ k1 (HM.out.rd hR (HO.out.then o1))).mono ?_
            rintro e w2 ⟨rfl, k2, o2⟩
            go_wp2_with fail
            refine (HW.out _ (HM.out.rd hR ((HO.out.then o1).then o2))).mono ?_
            rintro e w3 ⟨rfl, b3⟩
            go_wp2
            go_ret2
            exact VOut.bad HVN.out (((HO.out.then o1).then o2).thenB b3)
        | some x =>
          obtain ⟨a, r2⟩ := x
          have HU := Lib.hid (fun W (hW : RS R r n sc W) (hm : ML W) => upTo_any hW hm [34] (List.cons_ne_nil _ _) (by omega) a r2 true (.inl ⟨ht, rfl⟩))
          have hla := to_len ht
          have hal : a.length ≤ 100000 := by omega
          have HW := Lib.hid (fun W (hm : ML W) => unwritten_any a hal W hm)
          have HC := Lib.hid (fun W (hm : ML W) b hb => cont60 a (by omega) W hm b hb)
          unfold UnwOut at HW
          have HVN : Hid (o = if (60 : UInt8) ∈ a then none else (refsL (linesL a)).map fun x => (x, r2)) := Lib.hid (by rw [HVO.out, ht])
          generalize refsL (linesL a) = o2 at *
          clear ht HVO hla
          cases o2 with
          | none =>
            have HVN2 : Hid (o = none) := Lib.hid (by rw [HVN.out]; split <;> rfl)
            clear HVN
            go_wp2_with fail
            refine HT.out.mono ?_
            rintro e w1 ⟨rfl, k1, o1⟩
            go_wp2_with fail
            refine (HU.out _ k1 (HM.out.rd hR (HO.out.then o1))).mono ?_
            rintro e w2 ⟨rfl, k2, o2⟩
            go_wp2_with fail
            refine (HW.out _ (HM.out.rd hR ((HO.out.then o1).then o2))).mono ?_
            rintro e w3 ⟨rfl, b3⟩
            go_wp2
            go_ret2
            exact VOut.bad HVN2.out (((HO.out.then o1).then o2).thenB b3)
          | some x =>
            have HW2 : Hid (∀ W, ML W → Calls Tryz.prog 139 #[.string (bs a)] W (fun e w' => e = .returned (.tuple #[.string (bs x), .bool true]) ∧ Below W.heap.size W w')) := HW
            clear HW
            by_cases h60 : (60 : UInt8) ∈ a
            · have HVN2 : Hid (o = none) := Lib.hid (by rw [HVN.out, if_pos h60])
              have HC2 := Lib.hid (fun W (hm : ML W) => HC.out W hm true (decide_eq_true h60))
              clear HVN HC h60
              go_wp2_with fail
              refine HT.out.mono ?_
              rintro e w1 ⟨rfl, k1, o1⟩
              go_wp2_with fail
              refine (HU.out _ k1 (HM.out.rd hR (HO.out.then o1))).mono ?_
              rintro e w2 ⟨rfl, k2, o2⟩
              go_wp2_with fail
              refine (HW2.out _ (HM.out.rd hR ((HO.out.then o1).then o2))).mono ?_
              rintro e w3 ⟨rfl, b3⟩
              go_wp2_with fail
              refine (HC2.out _ (HM.out.rd hR (((HO.out.then o1).then o2).thenB b3))).mono ?_
              rintro e w4 ⟨rfl, rfl⟩
              go_wp2
              go_ret2
              exact VOut.bad HVN2.out (((HO.out.then o1).then o2).thenB b3)
            · have HVN2 : Hid (o = some (x, r2)) := Lib.hid (by rw [HVN.out, if_neg h60]; rfl)
              have HC2 := Lib.hid (fun W (hm : ML W) => HC.out W hm false (decide_eq_false h60))
              clear HVN HC h60
              go_wp2_with fail
              refine HT.out.mono ?_
              rintro e w1 ⟨rfl, k1, o1⟩
              go_wp2_with fail
              refine (HU.out _ k1 (HM.out.rd hR (HO.out.then o1))).mono ?_
              rintro e w2 ⟨rfl, k2, o2⟩
              go_wp2_with fail
              refine (HW2.out _ (HM.out.rd hR ((HO.out.then o1).then o2))).mono ?_
              rintro e w3 ⟨rfl, b3⟩
              have HK3 := Lib.hid (k2.below b3)
              clear k1 k2
              go_wp2_with fail
              refine (HC2.out _ (HM.out.rd hR (((HO.out.then o1).then o2).thenB b3))).mono ?_
              rintro e w4 ⟨rfl, rfl⟩
              go_wp2
              go_ret2
              exact VOut.good HVN2.out HK3.out (((HO.out.then o1).then o2).thenB b3)
      · have HT := Lib.hid (take_no HK.out hw)
        have HNE := Lib.hid hne
        clear hw hne
        go_wp2_with fail
        refine HT.out.mono ?_
        rintro e w1 ⟨rfl, k1, o1⟩
        have HK1 := Lib.hid k1
        have HB1 := Lib.hid (o1.blk HB.out (by omega))
        clear k1
        go_wp2
        go_roundw
        case rel => exact .inr (.inl ⟨rfl, HK1, Lib.hid (HO.out.then o1), HB1, HNE⟩)
        case measure => decide
    · have c0 := HB.out.cell 0
      have c1 := HB.out.cell 1
      rcases word_head (q := 39) (s := s) with ⟨r, hsr, hw⟩ | ⟨hne, hw⟩
      · have HT := Lib.hid (take_yes HK.out hw)
        have HVO := Lib.hid (value_of (q := 39) (r := r) (by decide))
        rw [← hsr, HV.out] at HVO
        have hrl : r.length ≤ 100000 := by rw [hsr, List.length_cons] at hs; omega
        clear hw hsr hs
        cases ht : toL [39] r with
        | none =>
          have HU := Lib.hid (fun W (hW : RS R r n sc W) (hm : ML W) => upTo_any hW hm [39] (List.cons_ne_nil _ _) (by omega) r [] false (.inr ⟨ht, rfl, rfl, rfl⟩))
          have HW := Lib.hid (fun W (hm : ML W) => unwritten_any r hrl W hm)
          unfold UnwOut at HW
          have HVN : Hid (o = none) := Lib.hid (by rw [HVO.out, ht])
          generalize refsL (linesL r) = o2 at *
          clear ht HVO
          cases o2
          all_goals
            go_wp2_with fail
            refine HT.out.mono ?_
            rintro e w1 ⟨rfl, k1, o1⟩
            go_wp2_with fail
            refine (HU.out _ k1 (HM.out.rd hR (HO.out.then o1))).mono ?_
            rintro e w2 ⟨rfl, k2, o2⟩
            go_wp2_with fail
            refine (HW.out _ (HM.out.rd hR ((HO.out.then o1).then o2))).mono ?_
            rintro e w3 ⟨rfl, b3⟩
            go_wp2
            go_ret2
            exact VOut.bad HVN.out (((HO.out.then o1).then o2).thenB b3)
        | some x =>
          obtain ⟨a, r2⟩ := x
          have HU := Lib.hid (fun W (hW : RS R r n sc W) (hm : ML W) => upTo_any hW hm [39] (List.cons_ne_nil _ _) (by omega) a r2 true (.inl ⟨ht, rfl⟩))
          have hla := to_len ht
          have hal : a.length ≤ 100000 := by omega
          have HW := Lib.hid (fun W (hm : ML W) => unwritten_any a hal W hm)
          have HC := Lib.hid (fun W (hm : ML W) b hb => cont60 a (by omega) W hm b hb)
          unfold UnwOut at HW
          have HVN : Hid (o = if (60 : UInt8) ∈ a then none else (refsL (linesL a)).map fun x => (x, r2)) := Lib.hid (by rw [HVO.out, ht])
          generalize refsL (linesL a) = o2 at *
          clear ht HVO hla
          cases o2 with
          | none =>
            have HVN2 : Hid (o = none) := Lib.hid (by rw [HVN.out]; split <;> rfl)
            clear HVN
            go_wp2_with fail
            refine HT.out.mono ?_
            rintro e w1 ⟨rfl, k1, o1⟩
            go_wp2_with fail
            refine (HU.out _ k1 (HM.out.rd hR (HO.out.then o1))).mono ?_
            rintro e w2 ⟨rfl, k2, o2⟩
            go_wp2_with fail
            refine (HW.out _ (HM.out.rd hR ((HO.out.then o1).then o2))).mono ?_
            rintro e w3 ⟨rfl, b3⟩
            go_wp2
            go_ret2
            exact VOut.bad HVN2.out (((HO.out.then o1).then o2).thenB b3)
          | some x =>
            have HW2 : Hid (∀ W, ML W → Calls Tryz.prog 139 #[.string (bs a)] W (fun e w' => e = .returned (.tuple #[.string (bs x), .bool true]) ∧ Below W.heap.size W w')) := HW
            clear HW
            by_cases h60 : (60 : UInt8) ∈ a
            · have HVN2 : Hid (o = none) := Lib.hid (by rw [HVN.out, if_pos h60])
              have HC2 := Lib.hid (fun W (hm : ML W) => HC.out W hm true (decide_eq_true h60))
              clear HVN HC h60
              go_wp2_with fail
              refine HT.out.mono ?_
              rintro e w1 ⟨rfl, k1, o1⟩
              go_wp2_with fail
              refine (HU.out _ k1 (HM.out.rd hR (HO.out.then o1))).mono ?_
              rintro e w2 ⟨rfl, k2, o2⟩
              go_wp2_with fail
              refine (HW2.out _ (HM.out.rd hR ((HO.out.then o1).then o2))).mono ?_
              rintro e w3 ⟨rfl, b3⟩
              go_wp2_with fail
              refine (HC2.out _ (HM.out.rd hR (((HO.out.then o1).then o2).thenB b3))).mono ?_
              rintro e w4 ⟨rfl, rfl⟩
              go_wp2
              go_ret2
              exact VOut.bad HVN2.out (((HO.out.then o1).then o2).thenB b3)
            · have HVN2 : Hid (o = some (x, r2)) := Lib.hid (by rw [HVN.out, if_neg h60]; rfl)
              have HC2 := Lib.hid (fun W (hm : ML W) => HC.out W hm false (decide_eq_false h60))
              clear HVN HC h60
              go_wp2_with fail
              refine HT.out.mono ?_
              rintro e w1 ⟨rfl, k1, o1⟩
              go_wp2_with fail
              refine (HU.out _ k1 (HM.out.rd hR (HO.out.then o1))).mono ?_
              rintro e w2 ⟨rfl, k2, o2⟩
              go_wp2_with fail
              refine (HW2.out _ (HM.out.rd hR ((HO.out.then o1).then o2))).mono ?_
              rintro e w3 ⟨rfl, b3⟩
              have HK3 := Lib.hid (k2.below b3)
              clear k1 k2
              go_wp2_with fail
              refine (HC2.out _ (HM.out.rd hR (((HO.out.then o1).then o2).thenB b3))).mono ?_
              rintro e w4 ⟨rfl, rfl⟩
              go_wp2
              go_ret2
              exact VOut.good HVN2.out HK3.out (((HO.out.then o1).then o2).thenB b3)
      · have HT := Lib.hid (take_no HK.out hw)
        have HNE := Lib.hid hne
        clear hw hne
        go_wp2_with fail
        refine HT.out.mono ?_
        rintro e w1 ⟨rfl, k1, o1⟩
        have HK1 := Lib.hid k1
        have HB1 := Lib.hid (o1.blk HB.out (by omega))
        clear k1
        go_wp2
        go_roundw
        case rel => exact .inr (.inr ⟨rfl, Lib.hid (HO.out.then o1), Lib.hid ⟨HN34.out, HNE.out⟩⟩)
        case measure => decide
    · have HVN : Hid (o = none) := Lib.hid (by rw [← HV.out]; exact value_not HNN.out.1 HNN.out.2)
      go_wp2
      go_ret2
      exact VOut.bad (x := []) HVN.out HO.out
end Go.Proofs.YtklcjimmbkpbdaaGreatDoor
namespace Go.Proofs.YtklcjimmbkpbdaaGreatDoor
open Go.RowKit
open Go.Lib

abbrev TAt : TypeId := 131
abbrev TQu : TypeId := 110
theorem three_set {B : Nat} {T : TypeId} {x y z a b c : Value} {w : World} (h : Blk B (.cells #[x, y, z] T (0, 0)) w) : Blk B (.cells #[a, b, c] T (0, 0)) (((w.setCell ⟨B, 0, none⟩ a).setCell ⟨B, 1, none⟩ b).setCell ⟨B, 2, none⟩ c) := by
  have := ((h.set 0 a).set 1 b).set 2 c
  simpa using this
theorem Blk.alloc8 {B : Nat} {o o' : Obj} {w : World} (h : Blk B o w) : Blk B o (w.alloc o') := (Off.of_below ((Below.refl _ _).alloc (Nat.le_refl _) o')).blk h (fun h => h)
theorem below_alloc8 (w : World) (o : Obj) : Below w.heap.size w (w.alloc o) := (Below.refl _ _).alloc (Nat.le_refl _) o
abbrev ZA : Obj := .cells #[.string ⟨#[]⟩, .string ⟨#[]⟩, .string ⟨#[]⟩] TAt (0, 0)
/-- What the reader of an attribute leaves. -/
def AOut (R n : Nat) (sc : Value) (w : World) (o : Option (XM × Bt)) (e : Ending) (w' : World) : Prop :=
  (∃ x y z : Bt, e = .returned (.tuple #[.agg #[.string (bs x), .string (bs y), .string (bs z)], .bool o.isSome]) ∧ ∀ m r, o = some (m, r) → x = m.1.1 ∧ y = m.1.2 ∧ z = m.2) ∧ (∀ m r, o = some (m, r) → RS R r n sc w') ∧ Off (fun b => b = R) w w'
theorem AOut.bad {R n : Nat} {sc : Value} {w w' : World} {o : Option (XM × Bt)} {x y z : Bt} (h : o = none) (ho : Off (fun b => b = R) w w') : AOut R n sc w o (.returned (.tuple #[.agg #[.string (bs x), .string (bs y), .string (bs z)], .bool false])) w' := by
  subst h
  exact ⟨⟨x, y, z, rfl, fun _ _ h => (by cases h)⟩, fun _ _ h => (by cases h), ho⟩
theorem AOut.good {R n : Nat} {sc : Value} {w w' : World} {o : Option (XM × Bt)} {m : XM} {r : Bt} (h : o = some (m, r)) (hr : RS R r n sc w') (ho : Off (fun b => b = R) w w') : AOut R n sc w o (.returned (.tuple #[.agg #[.string (bs m.1.1), .string (bs m.1.2), .string (bs m.2)], .bool true])) w' := by
  subst h
  exact ⟨⟨_, _, _, rfl, fun _ _ h => (by cases h; exact ⟨rfl, rfl, rfl⟩)⟩, fun _ _ h => (by cases h; exact hr), ho⟩
set_option maxRecDepth 100000 in
set_option maxHeartbeats 1000000 in
theorem attr_any {R : Nat} {s : Bt} {n : Nat} {sc : Value} {w : World} (h : RS R s n sc w) (hm : ML w) (hR : 0 ≠ R) (hs : s.length ≤ 100000) :
    Calls Tryz.prog 101 #[.pointer (some ⟨R, 0, none⟩)] w (AOut R n sc w (attrL s)) := by
  have HM := Lib.hid hm
  have hlt := h.lt
  have H0 := Lib.hid (h.below (below_alloc8 w ZA))
  have HQ := Lib.hid (fun W (hW : RS R s n sc W) => qual_any hW (by omega))
  have HE : Hid (attrL s = match markL s with
    | none => none
    | some (m, r) => match wordL [61] (blanksL r) with
      | none => none
      | some r => (valueL (blanksL r)).map fun x => ((m, x.1), x.2)) := Lib.hid rfl
  obtain ⟨o, ho⟩ : ∃ o, attrL s = o := ⟨_, rfl⟩
  rw [ho] at HE ⊢
  have HL : Hid (∀ m r, markL s = some (m, r) → r.length < s.length) := Lib.hid (fun m r h => mark_len h)
  clear ho h hm
  generalize markL s = mo at *
  cases mo with
  | none =>
    have HO : Hid (o = none) := HE
    go_enter Tryz.func101, Tryz.ntmps101
    go_wp2_with fail
    refine (HQ.out _ H0.out).mono ?_
    rintro e w1 ⟨⟨x, y, rfl, hxy⟩, k1, o1⟩
    have HO1 := Lib.hid ((Off.ofB (F := fun b => b = R) (below_alloc8 w ZA)).then o1)
    have hl1 : w.heap.size < w1.heap.size := by have := o1.size; simp at this; omega
    have hBw1 : Blk w.heap.size ZA w1 := o1.blk (Blk.new _ _) (by omega)
    have e0 := hBw1.cell 0
    have e1 := hBw1.cell 1
    have e2 := hBw1.cell 2
    have g0 := hBw1.free 0
    have g1 := hBw1.free 1
    have g2 := hBw1.free 2
    have HBw1 := Lib.hid hBw1
    clear hBw1
    go_wp2
    have hE := (three_set (a := .string ⟨#[]⟩) (b := .string ⟨#[]⟩) (c := .string ⟨#[]⟩) HBw1.out).alloc8 (o' := .cells #[.string (bs x), .string (bs y)] TQu)
    have d0 := hE.cell 0
    have d1 := hE.cell 1
    have d2 := hE.cell 2
    have hsz := Nat.le_refl w.heap.size
    exact bodyPost_ret (v := .tuple #[.agg #[.string ⟨#[]⟩, .string ⟨#[]⟩, .string ⟨#[]⟩], .bool false]) (by simp [results, Tryz.results101, go_sem, d0, d1, d2]) rfl (AOut.bad (x := []) (y := []) (z := []) HO.out ((((HO1.out.new hsz _ _).new hsz _ _).new hsz _ _).thenB (below_alloc8 _ _)))
  | some mr =>
    obtain ⟨m, r1⟩ := mr
    have hr1 := HL.out m r1 rfl
    have HE1 : Hid (o = match wordL [61] (blanksL r1) with | none => none | some r => (valueL (blanksL r)).map fun x => ((m, x.1), x.2)) := HE
    have hb1 := blanks_le r1
    have HS := Lib.hid (fun W (hW : RS R r1 n sc W) => skip_any hW)
    obtain ⟨u, hu⟩ : ∃ u, blanksL r1 = u := ⟨_, rfl⟩
    rw [hu] at HE1 HS hb1
    generalize decide (u.length < r1.length) = bo at *
    clear hu HE HL
    cases hw : wordL [61] u with
    | none =>
      have HO : Hid (o = none) := Lib.hid (by rw [HE1.out, hw])
      have HT := Lib.hid (fun W (hW : RS R u n sc W) => take_no hW hw)
      clear hw HE1
      go_enter Tryz.func101, Tryz.ntmps101
      go_wp2_with fail
      refine (HQ.out _ H0.out).mono ?_
      rintro e w1 ⟨⟨x, y, rfl, hxy⟩, k1, o1⟩
      have HO1 := Lib.hid ((Off.ofB (F := fun b => b = R) (below_alloc8 w ZA)).then o1)
      have hl1 : w.heap.size < w1.heap.size := by have := o1.size; simp at this; omega
      have hx := hxy m r1 rfl
      obtain ⟨rfl, rfl⟩ := hx
      have HK1 := Lib.hid ((k1 m r1 rfl).below (below_alloc8 w1 (.cells #[.string (bs m.1), .string (bs m.2)] TQu (0, 0))))
      have HB1 : Hid (Blk w.heap.size ZA (w1.alloc (.cells #[.string (bs m.1), .string (bs m.2)] TQu))) := Lib.hid (Blk.alloc8 (o1.blk (Blk.new _ _) (by omega)))
      have HQ1 : Hid (Blk w1.heap.size (.cells #[.string (bs m.1), .string (bs m.2)] TQu (0, 0)) (w1.alloc (.cells #[.string (bs m.1), .string (bs m.2)] TQu))) := Lib.hid (Blk.new _ _)
      have HO2 := Lib.hid (HO1.out.thenB (below_alloc8 w1 (.cells #[.string (bs m.1), .string (bs m.2)] TQu (0, 0))))
      have hR1 : R < w1.heap.size := by omega
      clear k1 hxy HO1
      go_wp2_with fail
      refine (HS.out _ HK1.out).mono ?_
      rintro e w2 ⟨rfl, k2, o2⟩
      go_wp2_with fail
      refine (HT.out _ k2).mono ?_
      rintro e w3 ⟨rfl, k3, o3⟩
      have hl3 : w.heap.size < w3.heap.size := by have := (o2.then o3).size; simp at this; omega
      clear k2 k3
      have hBw3 : Blk w.heap.size ZA w3 := (o2.then o3).blk HB1.out (by omega)
      have e0 := hBw3.cell 0
      have e1 := hBw3.cell 1
      have e2 := hBw3.cell 2
      have g0 := hBw3.free 0
      have g1 := hBw3.free 1
      have g2 := hBw3.free 2
      have HBw3 := Lib.hid hBw3
      clear hBw3
      go_wp2
      have hE := three_set (a := .string ⟨#[]⟩) (b := .string ⟨#[]⟩) (c := .string ⟨#[]⟩) HBw3.out
      have d0 := hE.cell 0
      have d1 := hE.cell 1
      have d2 := hE.cell 2
      have hsz := Nat.le_refl w.heap.size
      exact bodyPost_ret (v := .tuple #[.agg #[.string ⟨#[]⟩, .string ⟨#[]⟩, .string ⟨#[]⟩], .bool false]) (by simp [results, Tryz.results101, go_sem, d0, d1, d2]) rfl (AOut.bad (x := []) (y := []) (z := []) HO.out (((((HO2.out.then o2).then o3).new hsz _ _).new hsz _ _).new hsz _ _))
    | some r2 =>
      have hr2 := word_len hw
      simp only [List.length_cons, List.length_nil] at hr2
      have HE2 : Hid (o = (valueL (blanksL r2)).map fun x => ((m, x.1), x.2)) := Lib.hid (by rw [HE1.out, hw])
      have HT := Lib.hid (fun W (hW : RS R u n sc W) => take_yes hW hw)
      have hb2 := blanks_le r2
      have HS2 := Lib.hid (fun W (hW : RS R r2 n sc W) => skip_any hW)
      obtain ⟨v, hv⟩ : ∃ u, blanksL r2 = u := ⟨_, rfl⟩
      rw [hv] at HE2 HS2 hb2
      generalize decide (v.length < r2.length) = bo2 at *
      have HV := Lib.hid (fun W (hW : RS R v n sc W) (hm : ML W) => value_any hW hm hR (by omega))
      clear hw HE1 hv
      cases hvo : valueL v with
      | none =>
        have HO : Hid (o = none) := Lib.hid (by rw [HE2.out, hvo]; rfl)
        rw [hvo] at HV
        clear hvo HE2
        go_enter Tryz.func101, Tryz.ntmps101
        go_wp2_with fail
        refine (HQ.out _ H0.out).mono ?_
        rintro e w1 ⟨⟨x, y, rfl, hxy⟩, k1, o1⟩
        have HO1 := Lib.hid ((Off.ofB (F := fun b => b = R) (below_alloc8 w ZA)).then o1)
        have hl1 : w.heap.size < w1.heap.size := by have := o1.size; simp at this; omega
        have hx := hxy m r1 rfl
        obtain ⟨rfl, rfl⟩ := hx
        have HK1 := Lib.hid ((k1 m r1 rfl).below (below_alloc8 w1 (.cells #[.string (bs m.1), .string (bs m.2)] TQu (0, 0))))
        have HB1 : Hid (Blk w.heap.size ZA (w1.alloc (.cells #[.string (bs m.1), .string (bs m.2)] TQu))) := Lib.hid (Blk.alloc8 (o1.blk (Blk.new _ _) (by omega)))
        have HQ1 : Hid (Blk w1.heap.size (.cells #[.string (bs m.1), .string (bs m.2)] TQu (0, 0)) (w1.alloc (.cells #[.string (bs m.1), .string (bs m.2)] TQu))) := Lib.hid (Blk.new _ _)
        have HO2 := Lib.hid (HO1.out.thenB (below_alloc8 w1 (.cells #[.string (bs m.1), .string (bs m.2)] TQu (0, 0))))
        have hR1 : R < w1.heap.size := by omega
        clear k1 hxy HO1
        go_wp2_with fail
        refine (HS.out _ HK1.out).mono ?_
        rintro e w2 ⟨rfl, k2, o2⟩
        go_wp2_with fail
        refine (HT.out _ k2).mono ?_
        rintro e w3 ⟨rfl, k3, o3⟩
        go_wp2_with fail
        refine (HS2.out _ k3).mono ?_
        rintro e w4 ⟨rfl, k4, o4⟩
        have HO4 := Lib.hid (((HO2.out.then o2).then o3).then o4)
        go_wp2_with fail
        refine (HV.out _ k4 (HM.out.rd hR HO4.out)).mono ?_
        rintro e w5 ⟨⟨z, rfl, hz⟩, k5, o5⟩
        have HOX := Lib.hid ((((o2).then o3).then o4).then o5)
        have HO5 := Lib.hid (HO4.out.then o5)
        have hl5 : w.heap.size < w5.heap.size := by have := HOX.out.size; simp at this; omega
        have hq5 : w1.heap.size < w5.heap.size := by have := HOX.out.size; simp at this; omega
        have hQ5 := HOX.out.blk HQ1.out (by omega)
        have q0 := hQ5.cell 0
        have q1 := hQ5.cell 1
        clear k2 k3 k4 hQ5
        have hBw5 : Blk w.heap.size ZA w5 := HOX.out.blk HB1.out (by omega)
        have e0 := hBw5.cell 0
        have e1 := hBw5.cell 1
        have e2 := hBw5.cell 2
        have g0 := hBw5.free 0
        have g1 := hBw5.free 1
        have g2 := hBw5.free 2
        have HBw5 := Lib.hid hBw5
        clear hBw5
        clear k5 hz
        go_wp2
        have hE := three_set (a := .string (bs m.1)) (b := .string (bs m.2)) (c := .string (bs z)) HBw5.out
        have d0 := hE.cell 0
        have d1 := hE.cell 1
        have d2 := hE.cell 2
        have hsz := Nat.le_refl w.heap.size
        exact bodyPost_ret (v := .tuple #[.agg #[.string (bs m.1), .string (bs m.2), .string (bs z)], .bool false]) (by simp [results, Tryz.results101, go_sem, d0, d1, d2]) rfl (AOut.bad (x := m.1) (y := m.2) (z := z) HO.out (((HO5.out.new hsz _ _).new hsz _ _).new hsz _ _))
      | some vr =>
        obtain ⟨val, r3⟩ := vr
        have HO : Hid (o = some ((m, val), r3)) := Lib.hid (by rw [HE2.out, hvo]; rfl)
        rw [hvo] at HV
        clear hvo HE2
        go_enter Tryz.func101, Tryz.ntmps101
        go_wp2_with fail
        refine (HQ.out _ H0.out).mono ?_
        rintro e w1 ⟨⟨x, y, rfl, hxy⟩, k1, o1⟩
        have HO1 := Lib.hid ((Off.ofB (F := fun b => b = R) (below_alloc8 w ZA)).then o1)
        have hl1 : w.heap.size < w1.heap.size := by have := o1.size; simp at this; omega
        have hx := hxy m r1 rfl
        obtain ⟨rfl, rfl⟩ := hx
        have HK1 := Lib.hid ((k1 m r1 rfl).below (below_alloc8 w1 (.cells #[.string (bs m.1), .string (bs m.2)] TQu (0, 0))))
        have HB1 : Hid (Blk w.heap.size ZA (w1.alloc (.cells #[.string (bs m.1), .string (bs m.2)] TQu))) := Lib.hid (Blk.alloc8 (o1.blk (Blk.new _ _) (by omega)))
        have HQ1 : Hid (Blk w1.heap.size (.cells #[.string (bs m.1), .string (bs m.2)] TQu (0, 0)) (w1.alloc (.cells #[.string (bs m.1), .string (bs m.2)] TQu))) := Lib.hid (Blk.new _ _)
        have HO2 := Lib.hid (HO1.out.thenB (below_alloc8 w1 (.cells #[.string (bs m.1), .string (bs m.2)] TQu (0, 0))))
        have hR1 : R < w1.heap.size := by omega
        clear k1 hxy HO1
        go_wp2_with fail
        refine (HS.out _ HK1.out).mono ?_
        rintro e w2 ⟨rfl, k2, o2⟩
        go_wp2_with fail
        refine (HT.out _ k2).mono ?_
        rintro e w3 ⟨rfl, k3, o3⟩
        go_wp2_with fail
        refine (HS2.out _ k3).mono ?_
        rintro e w4 ⟨rfl, k4, o4⟩
        have HO4 := Lib.hid (((HO2.out.then o2).then o3).then o4)
        go_wp2_with fail
        refine (HV.out _ k4 (HM.out.rd hR HO4.out)).mono ?_
        rintro e w5 ⟨⟨z, rfl, hz⟩, k5, o5⟩
        have HOX := Lib.hid ((((o2).then o3).then o4).then o5)
        have HO5 := Lib.hid (HO4.out.then o5)
        have hl5 : w.heap.size < w5.heap.size := by have := HOX.out.size; simp at this; omega
        have hq5 : w1.heap.size < w5.heap.size := by have := HOX.out.size; simp at this; omega
        have hQ5 := HOX.out.blk HQ1.out (by omega)
        have q0 := hQ5.cell 0
        have q1 := hQ5.cell 1
        clear k2 k3 k4 hQ5
        have hBw5 : Blk w.heap.size ZA w5 := HOX.out.blk HB1.out (by omega)
        have e0 := hBw5.cell 0
        have e1 := hBw5.cell 1
        have e2 := hBw5.cell 2
        have g0 := hBw5.free 0
        have g1 := hBw5.free 1
        have g2 := hBw5.free 2
        have HBw5 := Lib.hid hBw5
        clear hBw5
        obtain rfl := hz val r3 rfl
        have HK5 := Lib.hid (k5 z r3 rfl)
        clear k5 hz
        go_wp2
        have hE := three_set (a := .string (bs m.1)) (b := .string (bs m.2)) (c := .string (bs z)) HBw5.out
        have d0 := hE.cell 0
        have d1 := hE.cell 1
        have d2 := hE.cell 2
        have hsz := Nat.le_refl w.heap.size
        exact bodyPost_ret (v := .tuple #[.agg #[.string (bs m.1), .string (bs m.2), .string (bs z)], .bool true]) (by simp [results, Tryz.results101, go_sem, d0, d1, d2]) rfl (AOut.good (m := (m, z)) HO.out (((HK5.out.off (off_set8 _ _ _ _) (by omega)).off (off_set8 _ _ _ _) (by omega)).off (off_set8 _ _ _ _) (by omega)) (((HO5.out.new hsz _ _).new hsz _ _).new hsz _ _))
end Go.Proofs.YtklcjimmbkpbdaaGreatDoor
