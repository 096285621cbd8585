/-
  Of the proofs of layer 7 (values of JSON): the parts PF PI PJ. No conditions.
-/
import Derived.Test.YtchgelfomnbpaaaDoorZ21
import Derived.Test.YtchgelfomnbpaaaDoorZ22
namespace Go.Proofs.YtchgelfomnbpaaaDoor
open Go.RowKit
open Go.Lib

abbrev zeroJ : Value := .agg #[.int .i64 0, .string ⟨#[]⟩, .slice none 0 0, .slice none 0 0]
/-- What the program's value answers. -/
def VOut (X d : Nat) (s : Bt) (w0 : World) (e : Ending) (w' : World) : Prop := Off (fun b => b = X) w0 w' ∧
  ((∃ v x r, GoodV d s v r ∧ e = .returned (.tuple #[x, .int .i64 0]) ∧ JR w' (fun b => w0.heap.size ≤ b ∧ b < w'.heap.size) v x ∧ PS X r d w') ∨
   (∃ z, valX d s = .error z ∧ z ≠ 0 ∧ e = .returned (.tuple #[zeroJ, .int .i64 z])))
/-- What the program's member answers. -/
def MOut (X V d : Nat) (k : Int) (obj : Bool) (ns : List Bt) (vs : List JV) (s : Bt) (w0 : World) (e : Ending) (w' : World) : Prop := Off (fun b => b = X ∨ V ≤ b) w0 w' ∧
  ((∃ ns' s1 v r nv lv cs T, namesL obj ns s = some (ns', s1) ∧ GoodV d s1 v r ∧ e = .returned (.int .i64 0) ∧ PS X r d w' ∧ MV V k nv lv cs T ns' (vs ++ [v]) w') ∨
   (∃ z, (namesL obj ns s = none ∧ z = 70 ∨ ∃ ns' s1, namesL obj ns s = some (ns', s1) ∧ valX d s1 = .error z) ∧ z ≠ 0 ∧ e = .returned (.int .i64 z)))
/-- Blocks from V on hold no table and no reader. -/
def AtV (X V : Nat) : Prop := X < V ∧ 0 < V ∧ 1 < V
theorem PS.offV {X V : Nat} {s : Bt} {d : Nat} {F : Nat → Prop} {w w' : World} (h : PS X s d w) (hV : AtV X V) (ho : Off F w w') (hF : ∀ b, F b → V ≤ b) : PS X s d w' :=
  h.off ho (fun h => by have := hF _ h; have := hV.1; omega) (fun h => by have := hF _ h; have := hV.2.1; omega) (fun h => by have := hF _ h; have := hV.2.2; omega)
set_option maxRecDepth 100000 in
set_option maxHeartbeats 4000000 in
theorem member_list {X V d : Nat} {s : Bt} {nv lv : Value} {cs : List Value} {T : Nat → Prop} {ns : List Bt} {vs : List JV} {w : World} (h : PS X s d w) (hXV : AtV X V) (M : MV V 5 nv lv cs T ns vs w) (hvl : vs.length ≤ 1000000)
    (HV : ∀ W, PS X s d W → Calls Tryd.prog 34 #[.pointer (some ⟨X, 0, none⟩)] W (VOut X d s W)) :
    Calls Tryd.prog 68 #[.pointer (some ⟨X, 0, none⟩), .pointer (some ⟨V, 0, none⟩)] w (MOut X V d 5 false ns vs s w) := by
  have m0 := M.blk.c0
  have H0 := Lib.hid h
  have HM := Lib.hid M
  have HVH := Lib.hid HV
  clear h M HV
  go_enter Tryd.func68, Tryd.ntmps68
  go_wp2_with fail
  refine (HVH.out _ H0.out).mono ?_
  clear HVH m0
  rintro e w4 ⟨o4, ⟨v, x, r, hv, rfl, hj, h4⟩ | ⟨z, hz, hz0, rfl⟩⟩
  · obtain ⟨x0, x1, x2, x3, rfl, hone⟩ := jr_one hj
    have hM4 : JZ w4.heap.size (w4.alloc (.cells #[.int .i64 0, .string ⟨#[]⟩, .slice none 0 0, .slice none 0 0] 28)) := Blk.new _ w4
    go_wp2_with (guard_target =~ Go.wpList _ _ _ ({ dst := none, op := Go.Op.store 28 _ _, type := _, pos := _, after := _, guard := none } :: _) _ _; refine st4 rfl rfl hone hM4 ?_)
    intro w5 hM5 o5
    have oA : Off (fun b => b = w4.heap.size) w4 w5 := ((Off.of_below ((Below.refl _ _).alloc (Nat.le_refl _) _)).mono (fun _ h => h.elim)).trans o5 (fun _ h => .inl h)
    have hVw : V < w.heap.size := HM.out.blk.lt
    have M4 := HM.out.off o4 (fun b hb => .inl (by rw [hb]; exact hXV.1))
    have M5 := M4.off oA (fun b hb => .inr (by rw [hb]; exact Nat.le_refl _))
    have hs4 := o4.size
    have hsA := oA.size
    go_upto_region 9 with fail
    refine regM (n := vs.length) (by kernel_rfl) (by simp) (by rfl) (by rfl) M5.blk hM5 hone M5.vals (by omega) (fun hb => by have := M4.lb hb; omega) hvl ?_
    intro y50 y52 lv' w6 hP
    obtain ⟨p1, p2, p3, p4⟩ := hP
    have hj5 : JR w5 (fun b => w.heap.size ≤ b ∧ b < w4.heap.size) v (.agg #[x0, x1, x2, x3]) := JR.off oA (fun b hb e => by omega) v _ hj
    have M6 := M5.push hj5 (fun b hb => ⟨by omega, by omega, fun h => by have := HM.out.nb h; omega, fun h => by have := HM.out.lb h; omega⟩) p1 p2 p3 p4
    have h6 : PS X r d w6 := (h4.offV hXV oA (fun b hb => by omega)).offV hXV p3 (fun b hb => by
      rcases hb with hb | hb
      · omega
      · have := M5.lb hb; omega)
    have o6 : Off (fun b => b = X ∨ V ≤ b) w w6 := ((o4.mono (fun _ h => .inl h)).trans oA (fun b h => .inl (.inr (by omega)))).trans p3 (fun b hb => .inl (.inr (by
      rcases hb with hb | hb
      · omega
      · have := M5.lb hb; omega)))
    have HM6 := Lib.hid M6
    have H6 := Lib.hid h6
    have HO := Lib.hid o6
    clear M6 h6 o6 p1 p2 p3 p4 M5 M4 hj5 hj h4 hM5 hM4 o5 oA
    go_wp2
    go_ret
    exact ⟨HO.out, .inl ⟨ns, s, v, r, _, _, _, _, rfl, hv, rfl, H6.out, HM6.out⟩⟩
  · have hM4 : JZ w4.heap.size (w4.alloc (.cells #[.int .i64 0, .string ⟨#[]⟩, .slice none 0 0, .slice none 0 0] 28)) := Blk.new _ w4
    have hVw : V < w.heap.size := HM.out.blk.lt
    have hs4 := o4.size
    go_wp2_with (guard_target =~ Go.wpList _ _ _ ({ dst := none, op := Go.Op.store 28 _ _, type := _, pos := _, after := _, guard := none } :: _) _ _; refine st4 rfl rfl ⟨rfl, rfl, rfl, rfl⟩ hM4 ?_)
    intro w5 hM5 o5
    have oA : Off (fun b => b = w4.heap.size) w4 w5 := ((Off.of_below ((Below.refl _ _).alloc (Nat.le_refl _) _)).mono (fun _ h => h.elim)).trans o5 (fun _ h => .inl h)
    have HO : Hid (Off (fun b => b = X ∨ V ≤ b) w w5) := Lib.hid ((o4.mono (fun _ h => .inl h)).trans oA (fun b h => .inl (.inr (by omega))))
    clear oA o5 o4 hM4 hM5
    have hzb : (z == 0) = false := by rw [beq_eq_false_iff_ne]; exact hz0
    go_wp2
    go_ret
    exact ⟨HO.out, .inr ⟨z, .inr ⟨ns, s, rfl, hz⟩, hz0, rfl⟩⟩
end Go.Proofs.YtchgelfomnbpaaaDoor
namespace Go.Proofs.YtchgelfomnbpaaaDoor
open Go.RowKit
open Go.Lib

theorem own_form7 {w : World} {B : Nat} {v : Value} {ns : List Bt} (h : OwT w B v ns) : ∃ A c, v = .slice A ns.length c := by
  rcases h.2 with ⟨e, h0⟩ | ⟨g, cap, cur, e, _⟩
  · exact ⟨none, 0, by rw [e, h0]⟩
  · exact ⟨_, cap, e⟩
theorem colon_none {s t r x : Bt} {ns : List Bt} (ht : blanksL s = t) (hx : textL t = some (x, r)) (h : ([58] : Bt).isPrefixOf (blanksL r) = false) : namesL true ns s = none := by
  unfold namesL
  rw [if_pos rfl, (member_colon (by rw [ht]; exact hx)).2 h]
  rfl
theorem colon_some {s t r x u : Bt} {ns : List Bt} (ht : blanksL s = t) (hx : textL t = some (x, r)) (h : ([58] : Bt).isPrefixOf (blanksL r) = true) (hu : (blanksL r).drop 1 = u) : namesL true ns s = some (ns ++ [x], u) := by
  unfold namesL
  rw [if_pos rfl, (member_colon (by rw [ht]; exact hx)).1 u h hu]
  rfl
theorem notext_none {s t : Bt} {ns : List Bt} (ht : blanksL s = t) (hx : textL t = none) : namesL true ns s = none := by
  unfold namesL
  rw [if_pos rfl, member_notext (by rw [ht]; exact hx)]
  rfl
set_option maxRecDepth 100000 in
set_option maxHeartbeats 4000000 in
theorem member_obj {X V d : Nat} {s : Bt} {nv lv : Value} {cs : List Value} {T : Nat → Prop} {ns : List Bt} {vs : List JV} {w : World} (h : PS X s d w) (hXV : AtV X V) (M : MV V 6 nv lv cs T ns vs w) (hvl : vs.length ≤ 1000000) (hnl : ns.length ≤ 1000000) (hs : s.length ≤ 100000)
    (HV : ∀ u W, u.length ≤ s.length → PS X u d W → Calls Tryd.prog 34 #[.pointer (some ⟨X, 0, none⟩)] W (VOut X d u W)) :
    Calls Tryd.prog 68 #[.pointer (some ⟨X, 0, none⟩), .pointer (some ⟨V, 0, none⟩)] w (MOut X V d 6 true ns vs s w) := by
  obtain ⟨t, ht⟩ : ∃ t, blanksL s = t := ⟨_, rfl⟩
  have htl : t.length ≤ s.length := by rw [← ht]; exact blanks_le s
  have HTX : Hid (∀ W, PS X s d W → Calls Tryd.prog 55 #[.pointer (some ⟨X, 0, none⟩)] W fun e w' => ∃ x ok r, e = .returned (.tuple #[.string (bs x), .bool ok]) ∧ textL t = (if ok then some (x, r) else none) ∧ PS X r d w' ∧ Off (fun b => b = X) W w') := Lib.hid (fun W hW => ptext_any hW ht (by omega))
  have m0 := M.blk.c0
  have H0 := Lib.hid h
  have HM := Lib.hid M
  have HVH := Lib.hid HV
  have HT := Lib.hid ht
  have HTL := Lib.hid htl
  clear h M HV ht htl
  go_enter Tryd.func68, Tryd.ntmps68
  go_wp2_with fail
  refine (HTX.out _ H0.out).mono ?_
  clear HTX m0
  rintro e w1 ⟨x, ok, r, rfl, hx, h1, o1⟩
  cases ok with
  | false =>
    have HN : Hid (namesL true ns s = none) := Lib.hid (notext_none HT.out hx)
    have HO : Hid (Off (fun b => b = X ∨ V ≤ b) w w1) := Lib.hid (o1.mono (fun _ h => .inl h))
    clear hx h1 o1
    go_wp2_with fail
    go_ret
    exact ⟨HO.out, .inr ⟨70, .inl ⟨HN.out, rfl⟩, by decide, rfl⟩⟩
  | true =>
    have hx : textL t = some (x, r) := hx
    obtain ⟨t2, ht2⟩ : ∃ t, blanksL r = t := ⟨_, rfl⟩
    obtain ⟨ob, hob⟩ : ∃ b, ([58] : Bt).isPrefixOf t2 = b := ⟨_, rfl⟩
    obtain ⟨u, hu⟩ : ∃ u, (if ob then t2.drop 1 else t2) = u := ⟨_, rfl⟩
    have HTK : Hid (Calls Tryd.prog 52 #[.pointer (some ⟨X, 0, none⟩), .string ⟨#[58]⟩] w1 fun e w' => e = .returned (.bool ob) ∧ PS X u d w' ∧ Off (fun b => b = X) w1 w') := Lib.hid (ptake_any h1 ht2 [58] ob hob hu)
    have HX := Lib.hid hx
    have HO1 := Lib.hid o1
    have HOB := Lib.hid hob
    have HU := Lib.hid hu
    have HT2 := Lib.hid ht2
    clear hx h1 o1 hob hu ht2
    go_wp2_with fail
    refine HTK.out.mono ?_
    clear HTK
    rintro e w2 ⟨rfl, h2, o2⟩
    cases ob with
    | false =>
      have HN : Hid (namesL true ns s = none) := Lib.hid (colon_none HT.out HX.out (by rw [HT2.out]; exact HOB.out))
      have HO : Hid (Off (fun b => b = X ∨ V ≤ b) w w2) := Lib.hid ((HO1.out.trans o2 (fun _ h => .inl h)).mono (fun _ h => .inl h))
      clear h2 o2
      go_wp2_with fail
      go_ret
      exact ⟨HO.out, .inr ⟨70, .inl ⟨HN.out, rfl⟩, by decide, rfl⟩⟩
    | true =>
      have hu : t2.drop 1 = u := HU.out
      have HN : Hid (namesL true ns s = some (ns ++ [x], u)) := Lib.hid (colon_some HT.out HX.out (by rw [HT2.out]; exact HOB.out) (by rw [HT2.out]; exact hu))
      have hul : u.length ≤ s.length := by
        have h1 := text_len HX.out
        have h2 := blanks_le r
        have h3 := HTL.out
        rw [HT2.out] at h2
        rw [← hu, List.length_drop]
        omega
      have HUL := Lib.hid hul
      have M2 := (HM.out.off HO1.out (fun b hb => .inl (by rw [hb]; exact hXV.1))).off o2 (fun b hb => .inl (by rw [hb]; exact hXV.1))
      have HM2 := Lib.hid M2
      have c2 := M2.blk.c2
      have HO2 : Hid (Off (fun b => b = X) w w2) := Lib.hid (HO1.out.trans o2 (fun _ h => .inl h))
      have H2 := Lib.hid h2
      have HNV := Lib.hid (own_form7 M2.names)
      clear h2 o2 hul hu M2
      obtain ⟨nA, nc, rfl⟩ := HNV.out
      clear HNV
      have HVL : Hid (V < w2.heap.size) := Lib.hid HM2.out.blk.lt
      go_wp2_with (at_builtin; refine appT7 rfl _ _ rfl w2 (V + 1) (.slice nA ns.length nc) ns x rfl HM2.out.names rfl hnl HVL.out ?_
                   intro nv5 w5 hn5 o5 hat5
                   obtain ⟨nA5, nc5, rfl⟩ : ∃ A c, nv5 = .slice A (ns.length + 1) c := by simpa using own_form7 hn5
                   have M5 := HM2.out.name hn5 o5 hat5
                   have HM5 := Lib.hid M5
                   have b5 := HM2.out.blk.off o5 (fun h => by have := HM2.out.nb h; omega)
                   have z2 := b5.c2
                   have zf := b5.free 2
                   have HO5 := Lib.hid o5
                   clear hn5 o5 hat5 M5 b5 c2)
      have o56 : Off (fun b => V ≤ b) w2 (w5.setCell ⟨V, 2, none⟩ (.slice nA5 (ns.length + 1) nc5)) := (HO5.out.mono (fun b hb => by have := HM2.out.nb hb; omega)).trans (off_set7 w5 V 2 _) (fun b hb => .inl (by rw [hb]; exact Nat.le_refl _))
      have h6 : PS X u d (w5.setCell ⟨V, 2, none⟩ (.slice nA5 (ns.length + 1) nc5)) := H2.out.offV hXV o56 (fun b hb => hb)
      have HO6 : Hid (Off (fun b => b = X ∨ V ≤ b) w (w5.setCell ⟨V, 2, none⟩ (.slice nA5 (ns.length + 1) nc5))) := Lib.hid ((HO2.out.mono (fun _ h => .inl h)).trans o56 (fun b hb => .inl (.inr hb)))
      clear o56 z2 zf HO5
      generalize w5.setCell ⟨V, 2, none⟩ (.slice nA5 (ns.length + 1) nc5) = w6 at *
      refine (HVH.out u _ HUL.out h6).mono ?_
      clear HVH h6 H2 HO2 HO1 HM2 HVL
      rintro e w4 ⟨o4, ⟨v, y, r4, hv, rfl, hj, h4⟩ | ⟨z, hz, hz0, rfl⟩⟩
      · obtain ⟨x0, x1, x2, x3, rfl, hone⟩ := jr_one hj
        have hM4 : JZ w4.heap.size (w4.alloc (.cells #[.int .i64 0, .string ⟨#[]⟩, .slice none 0 0, .slice none 0 0] 28)) := Blk.new _ w4
        go_wp2_with (guard_target =~ Go.wpList _ _ _ ({ dst := none, op := Go.Op.store 28 _ _, type := _, pos := _, after := _, guard := none } :: _) _ _; refine st4 rfl rfl hone hM4 ?_)
        intro w7 hM7 o7
        have oA : Off (fun b => b = w4.heap.size) w4 w7 := ((Off.of_below ((Below.refl _ _).alloc (Nat.le_refl _) _)).mono (fun _ h => h.elim)).trans o7 (fun _ h => .inl h)
        have hVw : V < w6.heap.size := HM5.out.blk.lt
        have M4 := HM5.out.off o4 (fun b hb => .inl (by rw [hb]; exact hXV.1))
        have M7 := M4.off oA (fun b hb => .inr (by rw [hb]; exact Nat.le_refl _))
        have hs4 := o4.size
        have hsA := oA.size
        go_upto_region 9 with fail
        refine regM (n := vs.length) (by kernel_rfl) (by simp) (by rfl) (by rfl) M7.blk hM7 hone M7.vals (by omega) (fun hb => by have := M4.lb hb; omega) hvl ?_
        intro y50 y52 lv' w8 hP
        obtain ⟨p1, p2, p3, p4⟩ := hP
        have hj7 : JR w7 (fun b => w6.heap.size ≤ b ∧ b < w4.heap.size) v (.agg #[x0, x1, x2, x3]) := JR.off oA (fun b hb e => by omega) v _ hj
        have M8 := M7.push hj7 (fun b hb => ⟨by omega, by omega, fun h => by have := HM5.out.nb h; omega, fun h => by have := HM5.out.lb h; omega⟩) p1 p2 p3 p4
        have h8 : PS X r4 d w8 := (h4.offV hXV oA (fun b hb => by omega)).offV hXV p3 (fun b hb => by
          rcases hb with hb | hb
          · omega
          · have := M7.lb hb; omega)
        have o8 : Off (fun b => b = X ∨ V ≤ b) w w8 := ((HO6.out.trans o4 (fun _ h => .inl (.inl h))).trans oA (fun b h => .inl (.inr (by omega)))).trans p3 (fun b hb => .inl (.inr (by
          rcases hb with hb | hb
          · omega
          · have := M7.lb hb; omega)))
        have HM8 := Lib.hid M8
        have H8 := Lib.hid h8
        have HO := Lib.hid o8
        clear M8 h8 o8 p1 p2 p3 p4 M7 M4 hj7 hj h4 hM7 hM4 o7 oA o4
        go_wp2
        go_ret
        exact ⟨HO.out, .inl ⟨ns ++ [x], u, v, r4, _, _, _, _, HN.out, hv, rfl, H8.out, HM8.out⟩⟩
      · have hM4 : JZ w4.heap.size (w4.alloc (.cells #[.int .i64 0, .string ⟨#[]⟩, .slice none 0 0, .slice none 0 0] 28)) := Blk.new _ w4
        have hVw : V < w6.heap.size := HM5.out.blk.lt
        have hs4 := o4.size
        go_wp2_with (guard_target =~ Go.wpList _ _ _ ({ dst := none, op := Go.Op.store 28 _ _, type := _, pos := _, after := _, guard := none } :: _) _ _; refine st4 rfl rfl ⟨rfl, rfl, rfl, rfl⟩ hM4 ?_)
        intro w7 hM7 o7
        have oA : Off (fun b => b = w4.heap.size) w4 w7 := ((Off.of_below ((Below.refl _ _).alloc (Nat.le_refl _) _)).mono (fun _ h => h.elim)).trans o7 (fun _ h => .inl h)
        have HO : Hid (Off (fun b => b = X ∨ V ≤ b) w w7) := Lib.hid ((HO6.out.trans o4 (fun _ h => .inl (.inl h))).trans oA (fun b h => .inl (.inr (by omega))))
        clear oA o7 o4 hM4 hM7
        have hzb : (z == 0) = false := by rw [beq_eq_false_iff_ne]; exact hz0
        go_wp2
        go_ret
        exact ⟨HO.out, .inr ⟨z, .inr ⟨ns ++ [x], u, HN.out, hz⟩, hz0, rfl⟩⟩
end Go.Proofs.YtchgelfomnbpaaaDoor
namespace Go.Proofs.YtchgelfomnbpaaaDoor
open Go.RowKit
open Go.Lib

/-- What the program answers behind a bracket. -/
def IOut (X d : Nat) (obj : Bool) (s : Bt) (w0 : World) (e : Ending) (w' : World) : Prop := Off (fun b => b = X) w0 w' ∧
  ((∃ v x r, insF d obj s = .ok (v, r) ∧ e = .returned (.tuple #[x, .int .i64 0]) ∧ JR w' (fun b => w0.heap.size ≤ b ∧ b < w'.heap.size) v x ∧ PS X r d w') ∨
   (∃ z, insF d obj s = .error z ∧ z ≠ 0 ∧ e = .returned (.tuple #[zeroJ, .int .i64 z])))
theorem off_res {X : Nat} {w wN wz : World} (_hX : X < w.heap.size) (o : Off (fun b => b = X) (w.alloc (.cells #[.int .i64 0, .string ⟨#[]⟩, .slice none 0 0, .slice none 0 0] 28)) wN) (oz : Off (fun b => b = w.heap.size) wN wz) : Off (fun b => b = X) w wz := by
  have h0 : Off (fun b => b = X) w (w.alloc (.cells #[.int .i64 0, .string ⟨#[]⟩, .slice none 0 0, .slice none 0 0] 28)) := (Off.of_below ((Below.refl _ _).alloc (Nat.le_refl _) _)).mono (fun _ h => h.elim)
  exact (h0.trans o (fun _ h => .inl h)).trans oz (fun b h => .inr (by omega))
theorem pre_cons {c : UInt8} {t : Bt} (h : ([c] : Bt).isPrefixOf t = true) : t = c :: t.drop 1 := by
  have := pre_head.1 h
  cases t with
  | nil => cases this
  | cons a t => rw [Option.some.inj this]; rfl
theorem pre_not {a b : UInt8} {t : Bt} (h : ([a] : Bt).isPrefixOf t = true) (hab : b ≠ a) (ws : Bt) : List.isPrefixOf (b :: ws) t = false := by
  rw [pre_cons h]
  exact pre_ne hab _ _
theorem wpre_first {a : UInt8} {bs1 t : Bt} (h : List.isPrefixOf (a :: bs1) t = true) : ∃ u, t = a :: u := by
  cases t with
  | nil => cases h
  | cons c u => exact ⟨u, by rw [pre_first h]⟩
theorem wpre_not {a b : UInt8} {bs1 t : Bt} (h : List.isPrefixOf (a :: bs1) t = true) (hab : b ≠ a) (ws : Bt) : List.isPrefixOf (b :: ws) t = false := by
  obtain ⟨u, rfl⟩ := wpre_first h
  exact pre_ne hab _ _
theorem jr_nil (w : World) (T : Nat → Prop) (k : Int) : JR w T (.mk k [] [] []) (.agg #[.int .i64 k, .string ⟨#[]⟩, .slice none 0 0, .slice none 0 0]) := jr_zero w T k []
/-- A word is asked for. -/
def Asks (X d : Nat) (s : Bt) (wd : ByteArray) (ob : Bool) (r : Bt) : Prop := ∀ W, PS X s d W → Calls Tryd.prog 52 #[.pointer (some ⟨X, 0, none⟩), .string wd] W fun e w' => e = .returned (.bool ob) ∧ PS X r d w' ∧ Off (fun b => b = X) W w'
theorem asks_no {X d : Nat} {s t : Bt} (ht : blanksL s = t) (wd : Bt) (h : wd.isPrefixOf t = false) : Asks X d s (bs wd) false t := fun _ hW => ptake_any hW ht wd false h rfl
theorem asks_yes {X d : Nat} {s t : Bt} (ht : blanksL s = t) (wd : Bt) (h : wd.isPrefixOf t = true) : Asks X d s (bs wd) true (t.drop wd.length) := fun _ hW => ptake_any hW ht wd true h rfl
abbrev VArgs (X : Nat) : Array Value := #[.pointer (some ⟨X, 0, none⟩)]
set_option maxRecDepth 100000 in
set_option maxHeartbeats 2000000 in
theorem val_list {X d : Nat} {s t : Bt} {w : World} (h : PS X s d w) (ht : blanksL s = t) (y91 : ([91] : Bt).isPrefixOf t = true) (HI : ∀ W, PS X (t.drop 1) d W → Calls Tryd.prog 53 #[.pointer (some ⟨X, 0, none⟩), .int .i64 5, .string ⟨#[93]⟩] W (IOut X d false (t.drop 1) W)) :
    Calls Tryd.prog 34 (VArgs X) w (VOut X d s w) := by
  have hR : JZ w.heap.size (w.alloc (.cells #[.int .i64 0, .string ⟨#[]⟩, .slice none 0 0, .slice none 0 0] 28)) := Blk.new _ w
  have HXL := Lib.hid h.lt
  have htt : blanksL t = t := by rw [← ht]; exact blanks_idem s
  have H0L : Hid (0 < w.heap.size ∧ 1 < w.heap.size) := Lib.hid h.tabs.lt
  have HT : Hid (blanksL s = opnB false :: t.drop 1) := Lib.hid (by rw [ht]; exact pre_cons y91)
  have HI := Lib.hid HI
  have K91 : Hid (Asks X d s ⟨#[91]⟩ true (t.drop 1)) := Lib.hid (asks_yes ht [91] (y91))
  have H0 : Hid (PS X s d (w.alloc (.cells #[.int .i64 0, .string ⟨#[]⟩, .slice none 0 0, .slice none 0 0] 28))) := Lib.hid (h.below ((Below.refl _ _).alloc (Nat.le_refl _) _))
  have HR := Lib.hid hR
  clear h htt hR y91
  go_enter Tryd.func34, Tryd.ntmps34
  go_wp2_with fail
  refine (K91.out _ H0.out).mono ?_
  rintro e w1 ⟨rfl, h1, o1⟩
  have HO1 := Lib.hid o1
  have H1 := Lib.hid h1
  clear h1 o1 K91
  go_wp2_with fail
  refine (HI.out _ H1.out).mono ?_
  rintro e wi ⟨oi, ⟨v, x, r, hv, rfl, hj, hp⟩ | ⟨z, hz0, hz1, rfl⟩⟩
  · have HOI := Lib.hid (HO1.out.trans oi (fun _ h => .inl h))
    have hsz := HO1.out.size
    have hbs : (w.alloc (.cells #[.int .i64 0, .string ⟨#[]⟩, .slice none 0 0, .slice none 0 0] 28)).heap.size = w.heap.size + 1 := by simp
    have hRk := HR.out.off HOI.out (fun e => by have := HXL.out; omega)
    obtain ⟨x0, x1, x2, x3, rfl, hone⟩ := jr_one hj
    have HJ := Lib.hid hj
    have HP := Lib.hid hp
    clear hj hp oi
    go_wp2_with (guard_target =~ Go.wpList _ _ _ ({ dst := none, op := Go.Op.store 28 _ _, type := _, pos := _, after := _, guard := none } :: _) _ _; refine st4 rfl rfl hone hRk ?_)
    intro wz hz oz
    have HO := Lib.hid (off_res HXL.out HOI.out oz)
    have HZ := Lib.hid (HP.out.off oz (fun e => by have := HXL.out; omega) (fun e => by have := H0L.out; omega) (fun e => by have := H0L.out; omega))
    have HJZ : Hid (JR wz (fun b => w.heap.size ≤ b ∧ b < wz.heap.size) v (.agg #[x0, x1, x2, x3])) := Lib.hid (JR.mono (fun b hb => ⟨by omega, by have := oz.size; omega⟩) v _ (JR.off oz (fun b hb e => by omega) v _ HJ.out))
    clear hRk oz hsz hbs
    go_wp2
    exact bodyPost_ret (by simp [results, Tryd.results34, go_sem, J4.c0 hz, J4.c1 hz, J4.c2 hz, J4.c3 hz]) rfl ⟨HO.out, .inl ⟨v, _, _, .inl (by rw [valX_open (obj := false) HT.out]; exact hv), rfl, HJZ.out, HZ.out⟩⟩
  · have HOI := Lib.hid (HO1.out.trans oi (fun _ h => .inl h))
    have hRk := HR.out.off HOI.out (fun e => by have := HXL.out; omega)
    go_wp2_with (guard_target =~ Go.wpList _ _ _ ({ dst := none, op := Go.Op.store 28 _ _, type := _, pos := _, after := _, guard := none } :: _) _ _; refine st4 rfl rfl ⟨rfl, rfl, rfl, rfl⟩ hRk ?_)
    intro wz hz oz
    have HO := Lib.hid (off_res HXL.out HOI.out oz)
    clear hRk oz oi
    go_wp2
    exact bodyPost_ret (by simp [results, Tryd.results34, go_sem, J4.c0 hz, J4.c1 hz, J4.c2 hz, J4.c3 hz]) rfl ⟨HO.out, .inr ⟨z, by rw [valX_open (obj := false) HT.out]; exact hz0, hz1, rfl⟩⟩
set_option maxRecDepth 100000 in
set_option maxHeartbeats 2000000 in
theorem val_obj {X d : Nat} {s t : Bt} {w : World} (h : PS X s d w) (ht : blanksL s = t) (y123 : ([123] : Bt).isPrefixOf t = true) (HI : ∀ W, PS X (t.drop 1) d W → Calls Tryd.prog 53 #[.pointer (some ⟨X, 0, none⟩), .int .i64 6, .string ⟨#[125]⟩] W (IOut X d true (t.drop 1) W)) :
    Calls Tryd.prog 34 (VArgs X) w (VOut X d s w) := by
  have hR : JZ w.heap.size (w.alloc (.cells #[.int .i64 0, .string ⟨#[]⟩, .slice none 0 0, .slice none 0 0] 28)) := Blk.new _ w
  have HXL := Lib.hid h.lt
  have htt : blanksL t = t := by rw [← ht]; exact blanks_idem s
  have H0L : Hid (0 < w.heap.size ∧ 1 < w.heap.size) := Lib.hid h.tabs.lt
  have HT : Hid (blanksL s = opnB true :: t.drop 1) := Lib.hid (by rw [ht]; exact pre_cons y123)
  have HI := Lib.hid HI
  have n91 : ([91] : Bt).isPrefixOf t = false := pre_not y123 (by decide) []
  have K91 : Hid (Asks X d s ⟨#[91]⟩ false t) := Lib.hid (asks_no ht [91] (n91))
  have K123 : Hid (Asks X d t ⟨#[123]⟩ true (t.drop 1)) := Lib.hid (asks_yes htt [123] (y123))
  have H0 : Hid (PS X s d (w.alloc (.cells #[.int .i64 0, .string ⟨#[]⟩, .slice none 0 0, .slice none 0 0] 28))) := Lib.hid (h.below ((Below.refl _ _).alloc (Nat.le_refl _) _))
  have HR := Lib.hid hR
  clear h htt hR n91 y123
  go_enter Tryd.func34, Tryd.ntmps34
  go_wp2_with fail
  refine (K91.out _ H0.out).mono ?_
  rintro e w1 ⟨rfl, h1, o1⟩
  have HO1 := Lib.hid o1
  have H1 := Lib.hid h1
  clear h1 o1 K91
  go_wp2_with fail
  refine (K123.out _ H1.out).mono ?_
  rintro e w2 ⟨rfl, h2, o2⟩
  have HO2 := Lib.hid (HO1.out.trans o2 (fun _ h => .inl h))
  have H2 := Lib.hid h2
  clear h2 o2 K123 H1 HO1
  go_wp2_with fail
  refine (HI.out _ H2.out).mono ?_
  rintro e wi ⟨oi, ⟨v, x, r, hv, rfl, hj, hp⟩ | ⟨z, hz0, hz1, rfl⟩⟩
  · have HOI := Lib.hid (HO2.out.trans oi (fun _ h => .inl h))
    have hsz := HO2.out.size
    have hbs : (w.alloc (.cells #[.int .i64 0, .string ⟨#[]⟩, .slice none 0 0, .slice none 0 0] 28)).heap.size = w.heap.size + 1 := by simp
    have hRk := HR.out.off HOI.out (fun e => by have := HXL.out; omega)
    obtain ⟨x0, x1, x2, x3, rfl, hone⟩ := jr_one hj
    have HJ := Lib.hid hj
    have HP := Lib.hid hp
    clear hj hp oi
    go_wp2_with (guard_target =~ Go.wpList _ _ _ ({ dst := none, op := Go.Op.store 28 _ _, type := _, pos := _, after := _, guard := none } :: _) _ _; refine st4 rfl rfl hone hRk ?_)
    intro wz hz oz
    have HO := Lib.hid (off_res HXL.out HOI.out oz)
    have HZ := Lib.hid (HP.out.off oz (fun e => by have := HXL.out; omega) (fun e => by have := H0L.out; omega) (fun e => by have := H0L.out; omega))
    have HJZ : Hid (JR wz (fun b => w.heap.size ≤ b ∧ b < wz.heap.size) v (.agg #[x0, x1, x2, x3])) := Lib.hid (JR.mono (fun b hb => ⟨by omega, by have := oz.size; omega⟩) v _ (JR.off oz (fun b hb e => by omega) v _ HJ.out))
    clear hRk oz hsz hbs
    go_wp2
    exact bodyPost_ret (by simp [results, Tryd.results34, go_sem, J4.c0 hz, J4.c1 hz, J4.c2 hz, J4.c3 hz]) rfl ⟨HO.out, .inl ⟨v, _, _, .inl (by rw [valX_open (obj := true) HT.out]; exact hv), rfl, HJZ.out, HZ.out⟩⟩
  · have HOI := Lib.hid (HO2.out.trans oi (fun _ h => .inl h))
    have hRk := HR.out.off HOI.out (fun e => by have := HXL.out; omega)
    go_wp2_with (guard_target =~ Go.wpList _ _ _ ({ dst := none, op := Go.Op.store 28 _ _, type := _, pos := _, after := _, guard := none } :: _) _ _; refine st4 rfl rfl ⟨rfl, rfl, rfl, rfl⟩ hRk ?_)
    intro wz hz oz
    have HO := Lib.hid (off_res HXL.out HOI.out oz)
    clear hRk oz oi
    go_wp2
    exact bodyPost_ret (by simp [results, Tryd.results34, go_sem, J4.c0 hz, J4.c1 hz, J4.c2 hz, J4.c3 hz]) rfl ⟨HO.out, .inr ⟨z, by rw [valX_open (obj := true) HT.out]; exact hz0, hz1, rfl⟩⟩
set_option maxRecDepth 100000 in
set_option maxHeartbeats 2000000 in
theorem val_null {X d : Nat} {s t : Bt} {w : World} (h : PS X s d w) (ht : blanksL s = t) (yn : List.isPrefixOf [110, 117, 108, 108] t = true) :
    Calls Tryd.prog 34 (VArgs X) w (VOut X d s w) := by
  have hR : JZ w.heap.size (w.alloc (.cells #[.int .i64 0, .string ⟨#[]⟩, .slice none 0 0, .slice none 0 0] 28)) := Blk.new _ w
  have HXL := Lib.hid h.lt
  have htt : blanksL t = t := by rw [← ht]; exact blanks_idem s
  have H0L : Hid (0 < w.heap.size ∧ 1 < w.heap.size) := Lib.hid h.tabs.lt
  have n91 : List.isPrefixOf [91] t = false := wpre_not yn (by decide) _
  have n123 : List.isPrefixOf [123] t = false := wpre_not yn (by decide) _
  have HY := Lib.hid yn
  have K91 : Hid (Asks X d s ⟨#[91]⟩ false t) := Lib.hid (asks_no ht [91] (n91))
  have K123 : Hid (Asks X d t ⟨#[123]⟩ false t) := Lib.hid (asks_no htt [123] (n123))
  have Kn : Hid (Asks X d t ⟨#[110, 117, 108, 108]⟩ true (t.drop 4)) := Lib.hid (asks_yes htt [110, 117, 108, 108] (yn))
  have H0 : Hid (PS X s d (w.alloc (.cells #[.int .i64 0, .string ⟨#[]⟩, .slice none 0 0, .slice none 0 0] 28))) := Lib.hid (h.below ((Below.refl _ _).alloc (Nat.le_refl _) _))
  have HR := Lib.hid hR
  clear h htt hR n91 n123 yn
  go_enter Tryd.func34, Tryd.ntmps34
  go_wp2_with fail
  refine (K91.out _ H0.out).mono ?_
  rintro e w1 ⟨rfl, h1, o1⟩
  have HO1 := Lib.hid o1
  have H1 := Lib.hid h1
  clear h1 o1 K91
  go_wp2_with fail
  refine (K123.out _ H1.out).mono ?_
  rintro e w2 ⟨rfl, h2, o2⟩
  have HO2 := Lib.hid (HO1.out.trans o2 (fun _ h => .inl h))
  have H2 := Lib.hid h2
  clear h2 o2 K123 H1 HO1
  go_wp2_with fail
  refine (Kn.out _ H2.out).mono ?_
  rintro e w3 ⟨rfl, h3, o3⟩
  have HO3 := Lib.hid (HO2.out.trans o3 (fun _ h => .inl h))
  have H3 := Lib.hid h3
  clear h3 o3 Kn H2 HO2
  have hRk := HR.out.off HO3.out (fun e => by have := HXL.out; omega)
  go_wp2_with (guard_target =~ Go.wpList _ _ _ ({ dst := none, op := Go.Op.store 28 _ _, type := _, pos := _, after := _, guard := none } :: _) _ _; refine st4 rfl rfl ⟨rfl, rfl, rfl, rfl⟩ hRk ?_)
  intro wz hz oz
  have HO := Lib.hid (off_res HXL.out HO3.out oz)
  have HZ := Lib.hid (H3.out.off oz (fun e => by have := HXL.out; omega) (fun e => by have := H3.out.tabs.lt; have := H0L.out; omega) (fun e => by have := H3.out.tabs.lt; have := H0L.out; omega))
  clear hRk oz
  go_wp2
  exact bodyPost_ret (by simp [results, Tryd.results34, go_sem, J4.c0 hz, J4.c1 hz, J4.c2 hz, J4.c3 hz]) rfl ⟨HO.out, .inl ⟨.mk 0 [] [] [], _, _, .inl (valX_null ht HY.out), rfl, jr_nil _ _ 0, HZ.out⟩⟩
set_option maxRecDepth 100000 in
set_option maxHeartbeats 2000000 in
theorem val_false {X d : Nat} {s t : Bt} {w : World} (h : PS X s d w) (ht : blanksL s = t) (yf : List.isPrefixOf [102, 97, 108, 115, 101] t = true) :
    Calls Tryd.prog 34 (VArgs X) w (VOut X d s w) := by
  have hR : JZ w.heap.size (w.alloc (.cells #[.int .i64 0, .string ⟨#[]⟩, .slice none 0 0, .slice none 0 0] 28)) := Blk.new _ w
  have HXL := Lib.hid h.lt
  have htt : blanksL t = t := by rw [← ht]; exact blanks_idem s
  have H0L : Hid (0 < w.heap.size ∧ 1 < w.heap.size) := Lib.hid h.tabs.lt
  have n91 : List.isPrefixOf [91] t = false := wpre_not yf (by decide) _
  have n123 : List.isPrefixOf [123] t = false := wpre_not yf (by decide) _
  have nn : List.isPrefixOf [110, 117, 108, 108] t = false := wpre_not yf (by decide) _
  have HY := Lib.hid yf
  have HNN : Hid (nullW.isPrefixOf t = false) := Lib.hid nn
  have K91 : Hid (Asks X d s ⟨#[91]⟩ false t) := Lib.hid (asks_no ht [91] (n91))
  have K123 : Hid (Asks X d t ⟨#[123]⟩ false t) := Lib.hid (asks_no htt [123] (n123))
  have Kn : Hid (Asks X d t ⟨#[110, 117, 108, 108]⟩ false t) := Lib.hid (asks_no htt [110, 117, 108, 108] (nn))
  have Kf : Hid (Asks X d t ⟨#[102, 97, 108, 115, 101]⟩ true (t.drop 5)) := Lib.hid (asks_yes htt [102, 97, 108, 115, 101] (yf))
  have H0 : Hid (PS X s d (w.alloc (.cells #[.int .i64 0, .string ⟨#[]⟩, .slice none 0 0, .slice none 0 0] 28))) := Lib.hid (h.below ((Below.refl _ _).alloc (Nat.le_refl _) _))
  have HR := Lib.hid hR
  clear h htt hR n91 n123 nn yf
  go_enter Tryd.func34, Tryd.ntmps34
  go_wp2_with fail
  refine (K91.out _ H0.out).mono ?_
  rintro e w1 ⟨rfl, h1, o1⟩
  have HO1 := Lib.hid o1
  have H1 := Lib.hid h1
  clear h1 o1 K91
  go_wp2_with fail
  refine (K123.out _ H1.out).mono ?_
  rintro e w2 ⟨rfl, h2, o2⟩
  have HO2 := Lib.hid (HO1.out.trans o2 (fun _ h => .inl h))
  have H2 := Lib.hid h2
  clear h2 o2 K123 H1 HO1
  go_wp2_with fail
  refine (Kn.out _ H2.out).mono ?_
  rintro e w3 ⟨rfl, h3, o3⟩
  have HO3 := Lib.hid (HO2.out.trans o3 (fun _ h => .inl h))
  have H3 := Lib.hid h3
  clear h3 o3 Kn H2 HO2
  go_wp2_with fail
  refine (Kf.out _ H3.out).mono ?_
  rintro e w4 ⟨rfl, h4, o4⟩
  have HO4 := Lib.hid (HO3.out.trans o4 (fun _ h => .inl h))
  have H4 := Lib.hid h4
  clear h4 o4 Kf H3 HO3
  have hRk := HR.out.off HO4.out (fun e => by have := HXL.out; omega)
  go_wp2_with (guard_target =~ Go.wpList _ _ _ ({ dst := none, op := Go.Op.store 28 _ _, type := _, pos := _, after := _, guard := none } :: _) _ _; refine st4 rfl rfl ⟨rfl, rfl, rfl, rfl⟩ hRk ?_)
  intro wz hz oz
  have HO := Lib.hid (off_res HXL.out HO4.out oz)
  have HZ := Lib.hid (H4.out.off oz (fun e => by have := HXL.out; omega) (fun e => by have := H4.out.tabs.lt; have := H0L.out; omega) (fun e => by have := H4.out.tabs.lt; have := H0L.out; omega))
  clear hRk oz
  go_wp2
  exact bodyPost_ret (by simp [results, Tryd.results34, go_sem, J4.c0 hz, J4.c1 hz, J4.c2 hz, J4.c3 hz]) rfl ⟨HO.out, .inl ⟨.mk 1 [] [] [], _, _, .inl (valX_false ht HNN.out HY.out), rfl, jr_nil _ _ 1, HZ.out⟩⟩
set_option maxRecDepth 100000 in
set_option maxHeartbeats 2000000 in
theorem val_true {X d : Nat} {s t : Bt} {w : World} (h : PS X s d w) (ht : blanksL s = t) (yt : List.isPrefixOf [116, 114, 117, 101] t = true) :
    Calls Tryd.prog 34 (VArgs X) w (VOut X d s w) := by
  have hR : JZ w.heap.size (w.alloc (.cells #[.int .i64 0, .string ⟨#[]⟩, .slice none 0 0, .slice none 0 0] 28)) := Blk.new _ w
  have HXL := Lib.hid h.lt
  have htt : blanksL t = t := by rw [← ht]; exact blanks_idem s
  have H0L : Hid (0 < w.heap.size ∧ 1 < w.heap.size) := Lib.hid h.tabs.lt
  have n91 : List.isPrefixOf [91] t = false := wpre_not yt (by decide) _
  have n123 : List.isPrefixOf [123] t = false := wpre_not yt (by decide) _
  have nn : List.isPrefixOf [110, 117, 108, 108] t = false := wpre_not yt (by decide) _
  have nf : List.isPrefixOf [102, 97, 108, 115, 101] t = false := wpre_not yt (by decide) _
  have HY := Lib.hid yt
  have HNN : Hid (nullW.isPrefixOf t = false) := Lib.hid nn
  have HNF : Hid (falseW.isPrefixOf t = false) := Lib.hid nf
  have K91 : Hid (Asks X d s ⟨#[91]⟩ false t) := Lib.hid (asks_no ht [91] (n91))
  have K123 : Hid (Asks X d t ⟨#[123]⟩ false t) := Lib.hid (asks_no htt [123] (n123))
  have Kn : Hid (Asks X d t ⟨#[110, 117, 108, 108]⟩ false t) := Lib.hid (asks_no htt [110, 117, 108, 108] (nn))
  have Kf : Hid (Asks X d t ⟨#[102, 97, 108, 115, 101]⟩ false t) := Lib.hid (asks_no htt [102, 97, 108, 115, 101] (nf))
  have Kt : Hid (Asks X d t ⟨#[116, 114, 117, 101]⟩ true (t.drop 4)) := Lib.hid (asks_yes htt [116, 114, 117, 101] (yt))
  have H0 : Hid (PS X s d (w.alloc (.cells #[.int .i64 0, .string ⟨#[]⟩, .slice none 0 0, .slice none 0 0] 28))) := Lib.hid (h.below ((Below.refl _ _).alloc (Nat.le_refl _) _))
  have HR := Lib.hid hR
  clear h htt hR n91 n123 nn nf yt
  go_enter Tryd.func34, Tryd.ntmps34
  go_wp2_with fail
  refine (K91.out _ H0.out).mono ?_
  rintro e w1 ⟨rfl, h1, o1⟩
  have HO1 := Lib.hid o1
  have H1 := Lib.hid h1
  clear h1 o1 K91
  go_wp2_with fail
  refine (K123.out _ H1.out).mono ?_
  rintro e w2 ⟨rfl, h2, o2⟩
  have HO2 := Lib.hid (HO1.out.trans o2 (fun _ h => .inl h))
  have H2 := Lib.hid h2
  clear h2 o2 K123 H1 HO1
  go_wp2_with fail
  refine (Kn.out _ H2.out).mono ?_
  rintro e w3 ⟨rfl, h3, o3⟩
  have HO3 := Lib.hid (HO2.out.trans o3 (fun _ h => .inl h))
  have H3 := Lib.hid h3
  clear h3 o3 Kn H2 HO2
  go_wp2_with fail
  refine (Kf.out _ H3.out).mono ?_
  rintro e w4 ⟨rfl, h4, o4⟩
  have HO4 := Lib.hid (HO3.out.trans o4 (fun _ h => .inl h))
  have H4 := Lib.hid h4
  clear h4 o4 Kf H3 HO3
  go_wp2_with fail
  refine (Kt.out _ H4.out).mono ?_
  rintro e w5 ⟨rfl, h5, o5⟩
  have HO5 := Lib.hid (HO4.out.trans o5 (fun _ h => .inl h))
  have H5 := Lib.hid h5
  clear h5 o5 Kt H4 HO4
  have hRk := HR.out.off HO5.out (fun e => by have := HXL.out; omega)
  go_wp2_with (guard_target =~ Go.wpList _ _ _ ({ dst := none, op := Go.Op.store 28 _ _, type := _, pos := _, after := _, guard := none } :: _) _ _; refine st4 rfl rfl ⟨rfl, rfl, rfl, rfl⟩ hRk ?_)
  intro wz hz oz
  have HO := Lib.hid (off_res HXL.out HO5.out oz)
  have HZ := Lib.hid (H5.out.off oz (fun e => by have := HXL.out; omega) (fun e => by have := H5.out.tabs.lt; have := H0L.out; omega) (fun e => by have := H5.out.tabs.lt; have := H0L.out; omega))
  clear hRk oz
  go_wp2
  exact bodyPost_ret (by simp [results, Tryd.results34, go_sem, J4.c0 hz, J4.c1 hz, J4.c2 hz, J4.c3 hz]) rfl ⟨HO.out, .inl ⟨.mk 2 [] [] [], _, _, .inl (valX_true ht HNN.out HNF.out HY.out), rfl, jr_nil _ _ 2, HZ.out⟩⟩
set_option maxRecDepth 100000 in
set_option maxHeartbeats 2000000 in
theorem val_num {X d : Nat} {s t : Bt} {w : World} (h : PS X s d w) (ht : blanksL s = t) {r : Bt} (hb : Bare t) (hf : numF t = some r) (hl : t.length ≤ 100000) :
    Calls Tryd.prog 34 (VArgs X) w (VOut X d s w) := by
  have hR : JZ w.heap.size (w.alloc (.cells #[.int .i64 0, .string ⟨#[]⟩, .slice none 0 0, .slice none 0 0] 28)) := Blk.new _ w
  have HXL := Lib.hid h.lt
  have htt : blanksL t = t := by rw [← ht]; exact blanks_idem s
  have H0L : Hid (0 < w.heap.size ∧ 1 < w.heap.size) := Lib.hid h.tabs.lt
  have n91 := hb.list
  have n123 := hb.obj
  have nn := hb.null
  have nf := hb.no
  have nt := hb.yes
  have HB := Lib.hid hb
  have HF := Lib.hid hf
  clear hf
  have K91 : Hid (Asks X d s ⟨#[91]⟩ false t) := Lib.hid (asks_no ht [91] (n91))
  have K123 : Hid (Asks X d t ⟨#[123]⟩ false t) := Lib.hid (asks_no htt [123] (n123))
  have Kn : Hid (Asks X d t ⟨#[110, 117, 108, 108]⟩ false t) := Lib.hid (asks_no htt [110, 117, 108, 108] (nn))
  have Kf : Hid (Asks X d t ⟨#[102, 97, 108, 115, 101]⟩ false t) := Lib.hid (asks_no htt [102, 97, 108, 115, 101] (nf))
  have Kt : Hid (Asks X d t ⟨#[116, 114, 117, 101]⟩ false t) := Lib.hid (asks_no htt [116, 114, 117, 101] (nt))
  have H0 : Hid (PS X s d (w.alloc (.cells #[.int .i64 0, .string ⟨#[]⟩, .slice none 0 0, .slice none 0 0] 28))) := Lib.hid (h.below ((Below.refl _ _).alloc (Nat.le_refl _) _))
  have HR := Lib.hid hR
  clear h htt hR n91 n123 nn nf nt
  go_enter Tryd.func34, Tryd.ntmps34
  go_wp2_with fail
  refine (K91.out _ H0.out).mono ?_
  rintro e w1 ⟨rfl, h1, o1⟩
  have HO1 := Lib.hid o1
  have H1 := Lib.hid h1
  clear h1 o1 K91
  go_wp2_with fail
  refine (K123.out _ H1.out).mono ?_
  rintro e w2 ⟨rfl, h2, o2⟩
  have HO2 := Lib.hid (HO1.out.trans o2 (fun _ h => .inl h))
  have H2 := Lib.hid h2
  clear h2 o2 K123 H1 HO1
  go_wp2_with fail
  refine (Kn.out _ H2.out).mono ?_
  rintro e w3 ⟨rfl, h3, o3⟩
  have HO3 := Lib.hid (HO2.out.trans o3 (fun _ h => .inl h))
  have H3 := Lib.hid h3
  clear h3 o3 Kn H2 HO2
  go_wp2_with fail
  refine (Kf.out _ H3.out).mono ?_
  rintro e w4 ⟨rfl, h4, o4⟩
  have HO4 := Lib.hid (HO3.out.trans o4 (fun _ h => .inl h))
  have H4 := Lib.hid h4
  clear h4 o4 Kf H3 HO3
  go_wp2_with fail
  refine (Kt.out _ H4.out).mono ?_
  rintro e w5 ⟨rfl, h5, o5⟩
  have HO5 := Lib.hid (HO4.out.trans o5 (fun _ h => .inl h))
  have H5 := Lib.hid h5
  clear h5 o5 Kt H4 HO4
  have htt : blanksL t = t := by rw [← ht]; exact blanks_idem s
  have HN : Hid (∀ W, PS X t d W → Calls Tryd.prog 54 #[.pointer (some ⟨X, 0, none⟩)] W fun e w' => e = .returned (.tuple #[.string (bs (t.take (t.length - r.length))), .bool true]) ∧ PS X r d w' ∧ Off (fun b => b = X) W w') := Lib.hid (fun W hW => pnum_some hW htt HF.out (by omega))
  obtain ⟨y, hy⟩ : ∃ y, t.take (t.length - r.length) = y := ⟨_, rfl⟩
  rw [hy] at HN
  have HYE := Lib.hid hy
  clear htt hy
  go_wp2_with fail
  refine (HN.out _ H5.out).mono ?_
  rintro e wi ⟨rfl, hp, oi⟩
  have HOI := Lib.hid (HO5.out.trans oi (fun _ h => .inl h))
  have hRk := HR.out.off HOI.out (fun e => by have := HXL.out; omega)
  have HP := Lib.hid hp
  clear hp oi
  go_wp2_with (guard_target =~ Go.wpList _ _ _ ({ dst := none, op := Go.Op.store 28 _ _, type := _, pos := _, after := _, guard := none } :: _) _ _; refine st4 rfl rfl ⟨rfl, rfl, rfl, rfl⟩ hRk ?_)
  intro wz hz oz
  have HO := Lib.hid (off_res HXL.out HOI.out oz)
  have HZ := Lib.hid (HP.out.off oz (fun e => by have := HXL.out; omega) (fun e => by have := H0L.out; omega) (fun e => by have := H0L.out; omega))
  clear hRk oz
  go_wp2
  exact bodyPost_ret (by simp [results, Tryd.results34, go_sem, J4.c0 hz, J4.c1 hz, J4.c2 hz, J4.c3 hz]) rfl ⟨HO.out, .inl ⟨.mk 3 y [] [], _, _, by rw [← HYE.out]; exact valX_num ht HB.out HF.out, rfl, jr_zero _ _ 3 y, HZ.out⟩⟩
set_option maxRecDepth 100000 in
set_option maxHeartbeats 2000000 in
theorem val_text {X d : Nat} {s t : Bt} {w : World} (h : PS X s d w) (ht : blanksL s = t) (hb : Bare t) (hf : numF t = none) (hl : t.length ≤ 100000) :
    Calls Tryd.prog 34 (VArgs X) w (VOut X d s w) := by
  have hR : JZ w.heap.size (w.alloc (.cells #[.int .i64 0, .string ⟨#[]⟩, .slice none 0 0, .slice none 0 0] 28)) := Blk.new _ w
  have HXL := Lib.hid h.lt
  have htt : blanksL t = t := by rw [← ht]; exact blanks_idem s
  have H0L : Hid (0 < w.heap.size ∧ 1 < w.heap.size) := Lib.hid h.tabs.lt
  have n91 := hb.list
  have n123 := hb.obj
  have nn := hb.null
  have nf := hb.no
  have nt := hb.yes
  have HB := Lib.hid hb
  have HF := Lib.hid hf
  clear hf
  have K91 : Hid (Asks X d s ⟨#[91]⟩ false t) := Lib.hid (asks_no ht [91] (n91))
  have K123 : Hid (Asks X d t ⟨#[123]⟩ false t) := Lib.hid (asks_no htt [123] (n123))
  have Kn : Hid (Asks X d t ⟨#[110, 117, 108, 108]⟩ false t) := Lib.hid (asks_no htt [110, 117, 108, 108] (nn))
  have Kf : Hid (Asks X d t ⟨#[102, 97, 108, 115, 101]⟩ false t) := Lib.hid (asks_no htt [102, 97, 108, 115, 101] (nf))
  have Kt : Hid (Asks X d t ⟨#[116, 114, 117, 101]⟩ false t) := Lib.hid (asks_no htt [116, 114, 117, 101] (nt))
  have H0 : Hid (PS X s d (w.alloc (.cells #[.int .i64 0, .string ⟨#[]⟩, .slice none 0 0, .slice none 0 0] 28))) := Lib.hid (h.below ((Below.refl _ _).alloc (Nat.le_refl _) _))
  have HR := Lib.hid hR
  clear h htt hR n91 n123 nn nf nt
  go_enter Tryd.func34, Tryd.ntmps34
  go_wp2_with fail
  refine (K91.out _ H0.out).mono ?_
  rintro e w1 ⟨rfl, h1, o1⟩
  have HO1 := Lib.hid o1
  have H1 := Lib.hid h1
  clear h1 o1 K91
  go_wp2_with fail
  refine (K123.out _ H1.out).mono ?_
  rintro e w2 ⟨rfl, h2, o2⟩
  have HO2 := Lib.hid (HO1.out.trans o2 (fun _ h => .inl h))
  have H2 := Lib.hid h2
  clear h2 o2 K123 H1 HO1
  go_wp2_with fail
  refine (Kn.out _ H2.out).mono ?_
  rintro e w3 ⟨rfl, h3, o3⟩
  have HO3 := Lib.hid (HO2.out.trans o3 (fun _ h => .inl h))
  have H3 := Lib.hid h3
  clear h3 o3 Kn H2 HO2
  go_wp2_with fail
  refine (Kf.out _ H3.out).mono ?_
  rintro e w4 ⟨rfl, h4, o4⟩
  have HO4 := Lib.hid (HO3.out.trans o4 (fun _ h => .inl h))
  have H4 := Lib.hid h4
  clear h4 o4 Kf H3 HO3
  go_wp2_with fail
  refine (Kt.out _ H4.out).mono ?_
  rintro e w5 ⟨rfl, h5, o5⟩
  have HO5 := Lib.hid (HO4.out.trans o5 (fun _ h => .inl h))
  have H5 := Lib.hid h5
  clear h5 o5 Kt H4 HO4
  have htt : blanksL t = t := by rw [← ht]; exact blanks_idem s
  have HN : Hid (∀ W, PS X t d W → Calls Tryd.prog 54 #[.pointer (some ⟨X, 0, none⟩)] W fun e w' => e = .returned (.tuple #[.string ⟨#[]⟩, .bool false]) ∧ PS X t d w' ∧ Off (fun b => b = X) W w') := Lib.hid (fun W hW => pnum_none hW htt HF.out)
  have HX : Hid (∀ W, PS X t d W → Calls Tryd.prog 55 #[.pointer (some ⟨X, 0, none⟩)] W fun e w' => ∃ x ok r, e = .returned (.tuple #[.string (bs x), .bool ok]) ∧ textL t = (if ok then some (x, r) else none) ∧ PS X r d w' ∧ Off (fun b => b = X) W w') := Lib.hid (fun W hW => ptext_any hW htt hl)
  clear htt
  go_wp2_with fail
  refine (HN.out _ H5.out).mono ?_
  rintro e wi ⟨rfl, hp, oi⟩
  have HOI := Lib.hid (HO5.out.trans oi (fun _ h => .inl h))
  have HP := Lib.hid hp
  clear hp oi HN
  go_wp2_with fail
  refine (HX.out _ HP.out).mono ?_
  rintro e wj ⟨x, ok, r, rfl, hx, hp, oj⟩
  have HOJ := Lib.hid (HOI.out.trans oj (fun _ h => .inl h))
  have HQ := Lib.hid hp
  have hRk := HR.out.off HOJ.out (fun e => by have := HXL.out; omega)
  clear hp oj HX
  cases ok with
  | true =>
    have HTX : Hid (textL t = some (x, r)) := Lib.hid hx
    clear hx
    go_wp2_with (guard_target =~ Go.wpList _ _ _ ({ dst := none, op := Go.Op.store 28 _ _, type := _, pos := _, after := _, guard := none } :: _) _ _; refine st4 rfl rfl ⟨rfl, rfl, rfl, rfl⟩ hRk ?_)
    intro wz hz oz
    have HO := Lib.hid (off_res HXL.out HOJ.out oz)
    have HZ := Lib.hid (HQ.out.off oz (fun e => by have := HXL.out; omega) (fun e => by have := H0L.out; omega) (fun e => by have := H0L.out; omega))
    clear hRk oz
    go_wp2
    exact bodyPost_ret (by simp [results, Tryd.results34, go_sem, J4.c0 hz, J4.c1 hz, J4.c2 hz, J4.c3 hz]) rfl ⟨HO.out, .inl ⟨.mk 4 x [] [], _, _, .inl (valX_text ht HB.out HTX.out), rfl, jr_zero _ _ 4 x, HZ.out⟩⟩
  | false =>
    have HTX : Hid (textL t = none) := Lib.hid hx
    clear hx
    go_wp2_with (guard_target =~ Go.wpList _ _ _ ({ dst := none, op := Go.Op.store 28 _ _, type := _, pos := _, after := _, guard := none } :: _) _ _; refine st4 rfl rfl ⟨rfl, rfl, rfl, rfl⟩ hRk ?_)
    intro wz hz oz
    have HO := Lib.hid (off_res HXL.out HOJ.out oz)
    clear hRk oz
    go_wp2
    exact bodyPost_ret (by simp [results, Tryd.results34, go_sem, J4.c0 hz, J4.c1 hz, J4.c2 hz, J4.c3 hz]) rfl ⟨HO.out, .inr ⟨70, valX_none ht HB.out HF.out HTX.out, by decide, rfl⟩⟩
/-- Any value. -/
theorem val_step {X d : Nat} {s : Bt} {w : World} (h : PS X s d w) (hl : s.length ≤ 100000)
    (HI : ∀ (obj : Bool) (u : Bt) (W : World), u.length < s.length → PS X u d W → Calls Tryd.prog 53 #[.pointer (some ⟨X, 0, none⟩), .int .i64 (kindC obj), .string (bs [endC obj])] W (IOut X d obj u W)) :
    Calls Tryd.prog 34 (VArgs X) w (VOut X d s w) := by
  obtain ⟨t, ht⟩ : ∃ t, blanksL s = t := ⟨_, rfl⟩
  have htl : t.length ≤ s.length := by rw [← ht]; exact blanks_le s
  have hdr : ∀ c, ([c] : Bt).isPrefixOf t = true → (t.drop 1).length < s.length := fun c hc => by
    have : 0 < t.length := by rw [pre_cons hc]; simp
    rw [List.length_drop]
    omega
  by_cases y91 : ([91] : Bt).isPrefixOf t = true
  · exact val_list h ht y91 (fun W hW => HI false _ W (hdr _ y91) hW)
  by_cases y123 : ([123] : Bt).isPrefixOf t = true
  · exact val_obj h ht y123 (fun W hW => HI true _ W (hdr _ y123) hW)
  by_cases yn : List.isPrefixOf [110, 117, 108, 108] t = true
  · exact val_null h ht yn
  by_cases yf : List.isPrefixOf [102, 97, 108, 115, 101] t = true
  · exact val_false h ht yf
  by_cases yt : List.isPrefixOf [116, 114, 117, 101] t = true
  · exact val_true h ht yt
  have hb : Bare t := ⟨eq_false_of_ne_true y91, eq_false_of_ne_true y123, eq_false_of_ne_true yn, eq_false_of_ne_true yf, eq_false_of_ne_true yt⟩
  cases hn : numF t with
  | some r => exact val_num h ht hb hn (by omega)
  | none => exact val_text h ht hb hn (by omega)
end Go.Proofs.YtchgelfomnbpaaaDoor
