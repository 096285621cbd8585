/-
  Of the proofs of layer 7 (values of JSON): the parts PK PL PM. No conditions.
-/
import Derived.Test.YtchgelfomnbpaaaDoorZ23
namespace Go.Proofs.YtchgelfomnbpaaaDoor
open Go.RowKit
open Go.Lib

theorem member_any {X V d : Nat} {obj : Bool} {s : Bt} {nv lv : Value} {cs : List Value} {T : Nat → Prop} {ns : List Bt} {vs : List JV} {w : World} (h : PS X s d w) (hXV : AtV X V) (M : MV V (kindC obj) nv lv cs T ns vs w) (hvl : vs.length ≤ 1000000) (hnl : ns.length ≤ 1000000) (hs : s.length ≤ 100000)
    (HV : ∀ u W, u.length ≤ s.length → PS X u d W → Calls Tryd.prog 34 (VArgs X) W (VOut X d u W)) :
    Calls Tryd.prog 68 #[.pointer (some ⟨X, 0, none⟩), .pointer (some ⟨V, 0, none⟩)] w (MOut X V d (kindC obj) obj ns vs s w) := by
  cases obj with
  | false => exact member_list h hXV M hvl (fun W hW => HV s W (Nat.le_refl _) hW)
  | true => exact member_obj h hXV M hvl hnl hs HV
def lenOf (X : Nat) (w : World) : Nat := match w.cell? ⟨X, 0, none⟩ with | some (.string s) => s.size | _ => 0
theorem PS.lenOf {X : Nat} {s : Bt} {d : Nat} {w : World} (h : PS X s d w) : lenOf X w = s.length := by
  unfold Go.Proofs.YtchgelfomnbpaaaDoor.lenOf
  rw [h.c0]
  exact bs_size s
/-- Between two members. -/
def InSt (X V R d : Nat) (obj : Bool) (s : Bt) (w0 : World) (more : Bool) (wr : World) : Prop := ∃ u ns vs nv lv cs T, PS X u (d + 1) wr ∧ MV V (kindC obj) nv lv cs T ns vs wr ∧ JZ R wr ∧ Off (fun b => b = X) w0 wr ∧ ns.length + u.length ≤ s.length ∧ vs.length + u.length ≤ s.length ∧
  insF d obj s = if more then loopX d obj ns vs u else .ok (.mk (kindC obj) [] ns vs, u)
theorem ins_nil {d : Nat} {obj : Bool} {s t : Bt} (hd : d ≠ 24) (ht : blanksL s = t) (ob : Bool) (h : ([endC obj] : Bt).isPrefixOf t = ob) : insF d obj s = if !ob then loopX d obj [] [] (if ob then t.drop 1 else t) else .ok (.mk (kindC obj) [] [] [], if ob then t.drop 1 else t) := by
  unfold insF
  rw [if_neg hd, ht]
  cases ob with
  | true => rw [if_pos (pre_head.1 h)]; rfl
  | false => rw [if_neg (fun e => by have := pre_head.2 e; rw [h] at this; cases this)]; rfl
theorem names_len7 {obj : Bool} {ns ns' : List Bt} {s s1 : Bt} (h : namesL obj ns s = some (ns', s1)) : ns'.length ≤ ns.length + 1 := by
  cases obj with
  | false => rw [((names_stay h).1 rfl).1]; omega
  | true => obtain ⟨x, _, e⟩ := (names_stay h).2 rfl; rw [e]; simp
/-- What stands behind a member. -/
theorem behind {d : Nat} {obj : Bool} {ns ns' : List Bt} {vs : List JV} {u s1 r : Bt} {v : JV} (hn : namesL obj ns u = some (ns', s1)) (hg : GoodV (d + 1) s1 v r) :
    (∃ x, blanksL r = 44 :: x ∧ x.length + 2 ≤ u.length ∧ loopX d obj ns vs u = loopX d obj ns' (vs ++ [v]) x) ∨
    (∃ x, blanksL r = endC obj :: x ∧ ([44] : Bt).isPrefixOf (blanksL r) = false ∧ x.length + 2 ≤ u.length ∧ loopX d obj ns vs u = .ok (.mk (kindC obj) [] ns' (vs ++ [v]), x)) ∨
    (([44] : Bt).isPrefixOf (blanksL r) = false ∧ ([endC obj] : Bt).isPrefixOf (blanksL r) = false ∧ loopX d obj ns vs u = .error 70) := by
  rcases hg with hv | ⟨hv, c, t, hr, hc⟩
  · have h1 := names_len hn
    have h2 := valX_len hv
    have h3 := blanks_le r
    obtain ⟨g1, g2, g3⟩ := loopX_good (vs := vs) hn hv
    by_cases a : ([44] : Bt).isPrefixOf (blanksL r) = true
    · have e := pre_cons a
      refine .inl ⟨_, e, ?_, g1 _ e⟩
      rw [e] at h3
      simp only [List.length_cons] at h3
      omega
    · by_cases b : ([endC obj] : Bt).isPrefixOf (blanksL r) = true
      · have e := pre_cons b
        refine .inr (.inl ⟨_, e, eq_false_of_ne_true a, ?_, g2 _ e⟩)
        rw [e] at h3
        simp only [List.length_cons] at h3
        omega
      · exact .inr (.inr ⟨eq_false_of_ne_true a, eq_false_of_ne_true b, g3 (eq_false_of_ne_true a) (eq_false_of_ne_true b)⟩)
  · obtain ⟨e, e1, e2⟩ := digit_pre (t := t) hc obj
    rw [hr, e]
    exact .inr (.inr ⟨e1, e2, loopX_bad hn hv⟩)
theorem off_new {X : Nat} {w0 w w' : World} {V : Nat} (h0 : Off (fun b => b = X) w0 w) (h : Off (fun b => b = X ∨ V ≤ b) w w') (hV : w0.heap.size ≤ V) : Off (fun b => b = X) w0 w' := h0.trans h (fun b hb => hb.elim .inl (fun hb => .inr (by omega)))
set_option maxRecDepth 100000 in
set_option maxHeartbeats 4000000 in
theorem inside_any {X d : Nat} {obj : Bool} {s : Bt} {w : World} (h : PS X s d w) (hd : d ≤ 24) (hs : s.length ≤ 100000)
    (HV : d < 24 → ∀ u W, u.length ≤ s.length → PS X u (d + 1) W → Calls Tryd.prog 34 (VArgs X) W (VOut X (d + 1) u W)) :
    Calls Tryd.prog 53 #[.pointer (some ⟨X, 0, none⟩), .int .i64 (kindC obj), .string (bs [endC obj])] w (IOut X d obj s w) := by
  have hR : JZ w.heap.size (w.alloc (.cells #[.int .i64 0, .string ⟨#[]⟩, .slice none 0 0, .slice none 0 0] 28)) := Blk.new _ w
  have HXL := Lib.hid h.lt
  have H0L : Hid (0 < w.heap.size ∧ 1 < w.heap.size) := Lib.hid h.tabs.lt
  have h0 : PS X s d (w.alloc (.cells #[.int .i64 0, .string ⟨#[]⟩, .slice none 0 0, .slice none 0 0] 28)) := h.below ((Below.refl _ _).alloc (Nat.le_refl _) _)
  have c1 := h0.c1
  have zf := h0.free 1
  have H0 := Lib.hid h0
  have HR := Lib.hid hR
  have HVH := Lib.hid HV
  obtain ⟨S, hS⟩ : ∃ S, bs [endC obj] = S := ⟨_, rfl⟩
  obtain ⟨kd, hk⟩ : ∃ k, kindC obj = k := ⟨_, rfl⟩
  rw [hS, hk]
  have HS := Lib.hid hS
  have HK := Lib.hid hk
  clear h h0 hS hk
  by_cases h24 : d = 24
  · have hdk : ((d : Int) == 24) = true := by rw [beq_iff_eq]; omega
    have HI : Hid (insF d obj s = .error 71) := Lib.hid (by unfold insF; rw [if_pos h24])
    clear h24 hd
    go_enter Tryd.func53, Tryd.ntmps53
    go_wp2_with (guard_target =~ Go.wpList _ _ _ ({ dst := none, op := Go.Op.store 28 _ _, type := _, pos := _, after := _, guard := none } :: _) _ _; refine st4 rfl rfl ⟨rfl, rfl, rfl, rfl⟩ hR ?_)
    intro wz hz oz
    have HO := Lib.hid (off_res HXL.out (Off.refl _ _) oz)
    clear hR oz
    go_wp2
    exact bodyPost_ret (by simp [results, Tryd.results53, go_sem, J4.c0 hz, J4.c1 hz, J4.c2 hz, J4.c3 hz]) rfl ⟨HO.out, .inr ⟨71, HI.out, by decide, rfl⟩⟩
  · have hdk : ((d : Int) == 24) = false := by rw [beq_eq_false_iff_ne]; omega
    have hwr : IntKind.i64.wrap ((d : Int) + 1) = (d : Int) + 1 := IntWalk.i64_in _ (by omega)
    have H1 : Hid (PS X s (d + 1) ((w.alloc (.cells #[.int .i64 0, .string ⟨#[]⟩, .slice none 0 0, .slice none 0 0] 28)).setCell ⟨X, 1, none⟩ (.int .i64 ((d : Int) + 1)))) := Lib.hid (H0.out.set1 (d + 1))
    have hR1 : JZ w.heap.size ((w.alloc (.cells #[.int .i64 0, .string ⟨#[]⟩, .slice none 0 0, .slice none 0 0] 28)).setCell ⟨X, 1, none⟩ (.int .i64 ((d : Int) + 1))) := hR.off (off_set7 _ _ _ _) (fun e => by have := HXL.out; omega)
    have o1 : Off (fun b => b = X) w ((w.alloc (.cells #[.int .i64 0, .string ⟨#[]⟩, .slice none 0 0, .slice none 0 0] 28)).setCell ⟨X, 1, none⟩ (.int .i64 ((d : Int) + 1))) := ((Off.of_below ((Below.refl _ _).alloc (Nat.le_refl _) _)).mono (fun _ h => h.elim)).trans (off_set7 _ _ _ _) (fun _ h => .inl h)
    have HR1 := Lib.hid hR1
    have HO1 := Lib.hid o1
    have HD : Hid (d ≠ 24) := Lib.hid h24
    have hd24 : d < 24 := by omega
    have HV2 := Lib.hid (HVH.out hd24)
    clear hR hR1 o1 h24 HVH
    go_enter Tryd.func53, Tryd.ntmps53
    go_upto_region 4 with fail
    generalize (w.alloc (.cells #[.int .i64 0, .string ⟨#[]⟩, .slice none 0 0, .slice none 0 0] 28)).setCell ⟨X, 1, none⟩ (.int .i64 ((d : Int) + 1)) = w1 at *
    have hM1 : JZ w1.heap.size (w1.alloc (.cells #[.int .i64 0, .string ⟨#[]⟩, .slice none 0 0, .slice none 0 0] 28)) := Blk.new _ w1
    have hs1 := HO1.out.size
    have hRl := HR1.out.lt
    have HAV : Hid (AtV X w1.heap.size) := Lib.hid ⟨by have := HXL.out; omega, by have := H0L.out; omega, by have := H0L.out; omega⟩
    go_wp2_with (guard_target =~ Go.wpList _ _ _ ({ dst := none, op := Go.Op.store 28 _ _, type := _, pos := _, after := _, guard := none } :: _) _ _; refine st4 rfl rfl ⟨rfl, rfl, rfl, rfl⟩ hM1 ?_)
    intro w2 hM2 o2
    have oA : Off (fun b => b = w1.heap.size) w1 w2 := ((Off.of_below ((Below.refl _ _).alloc (Nat.le_refl _) _)).mono (fun _ h => h.elim)).trans o2 (fun _ h => .inl h)
    have h2 : PS X s (d + 1) w2 := H1.out.offV HAV.out oA (fun b hb => by omega)
    have hR2 : JZ w.heap.size w2 := HR1.out.off oA (fun e => by omega)
    have hO2 : Off (fun b => b = X) w w2 := HO1.out.trans oA (fun b hb => .inr (by omega))
    have hMV : MV w1.heap.size kd (.slice none 0 0) (.slice none 0 0) [] (fun _ => False) [] [] w2 := MV.new kd hM2
    obtain ⟨V, hV⟩ : ∃ V, w1.heap.size = V := ⟨_, rfl⟩
    rw [hV] at hMV HAV hs1 hRl ⊢
    have HM := Lib.hid hMV
    have HR2 := Lib.hid hR2
    have HO2 := Lib.hid hO2
    have HWV : Hid (w.heap.size < V) := Lib.hid (by omega)
    clear hM1 hM2 o2 oA hR2 hO2 hMV H1 HR1 HO1 hs1 hRl
    obtain ⟨t, ht⟩ : ∃ t, blanksL s = t := ⟨_, rfl⟩
    obtain ⟨ob, hob⟩ : ∃ b, ([endC obj] : Bt).isPrefixOf t = b := ⟨_, rfl⟩
    obtain ⟨u, hu⟩ : ∃ u, (if ob then t.drop 1 else t) = u := ⟨_, rfl⟩
    have HT : Hid (Calls Tryd.prog 52 #[.pointer (some ⟨X, 0, none⟩), .string S] w2 fun e w' => e = .returned (.bool ob) ∧ PS X u (d + 1) w' ∧ Off (fun b => b = X) w2 w') := Lib.hid (by rw [← HS.out]; exact ptake_any h2 ht [endC obj] ob hob hu)
    have HI : Hid (insF d obj s = if !ob then loopX d obj [] [] u else .ok (.mk (kindC obj) [] [] [], u)) := Lib.hid (by rw [ins_nil HD.out ht ob hob, hu])
    have hul : u.length ≤ s.length := by
      have := blanks_le s
      rw [ht] at this
      rw [← hu]
      cases ob with
      | true => simp only [if_true, List.length_drop]; omega
      | false => exact this
    have HUL := Lib.hid hul
    clear h2 ht hob hu hul
    go_wp2_with fail
    refine HT.out.mono ?_
    rintro e w3 ⟨rfl, h3, o3⟩
    have HSt : Hid (InSt X V w.heap.size d obj s w (!ob) w3) := Lib.hid ⟨u, [], [], _, _, _, _, h3, by rw [HK.out]; exact HM.out.off o3 (fun b hb => .inl (by rw [hb]; exact HAV.out.1)), HR2.out.off o3 (fun e => by have := HXL.out; omega), HO2.out.trans o3 (fun _ h => .inl h), by have := HUL.out; simpa using this, by have := HUL.out; simpa using this, HI.out⟩
    obtain ⟨more0, hm0⟩ : ∃ b, (!ob) = b := ⟨_, rfl⟩
    rw [hm0] at HSt
    clear h3 o3 HT HI HM HR2 HO2 HUL
    go_wp2_with fail
    go_loopw [9] (fun m wr => ∃ more : Bool, m = .bool more ∧ Hid (InSt X V w.heap.size d obj s w more wr)) (fun m wr => match m with | .bool true => 1 + lenOf X wr | _ => 0)
    case atStart => exact ⟨more0, rfl, HSt⟩
    case round =>
      clear HSt
      obtain ⟨more, rfl, HSt⟩ := hrel
      obtain ⟨u1, ns, vs, nv, lv, cs, T, h4, M4, hR4, o4, hn4, hv4, hI4⟩ := HSt.out
      clear HSt
      cases more with
      | false =>
        have c1 : wr.cell? ⟨X, 1, none⟩ = some (.int .i64 ((d : Int) + 1)) := h4.c1
        have zf := h4.free 1
        have hwr2 : IntKind.i64.wrap (d : Int) = (d : Int) := IntWalk.i64_in _ (by omega)
        have h5 : PS X u1 d (wr.setCell ⟨X, 1, none⟩ (.int .i64 (d : Int))) := h4.set1 d
        have M5 := M4.off (off_set7 wr X 1 (.int .i64 (d : Int))) (fun b hb => .inl (by rw [hb]; exact HAV.out.1))
        have R5 := hR4.off (off_set7 wr X 1 (.int .i64 (d : Int))) (fun e => by have := HXL.out; omega)
        have o5 := o4.trans (off_set7 wr X 1 (.int .i64 (d : Int))) (fun _ h => .inl h)
        have H5 := Lib.hid h5
        have HM5 := Lib.hid M5
        have HR5 := Lib.hid R5
        have HO5 := Lib.hid o5
        have HI5 : Hid (insF d obj s = .ok (.mk (kindC obj) [] ns vs, u1)) := Lib.hid hI4
        have HK5 := HK.out
        clear h4 M4 hR4 o4 h5 M5 R5 o5 hI4 hn4 hv4
        go_upto_region 14 with fail
        generalize wr.setCell ⟨X, 1, none⟩ (.int .i64 (d : Int)) = w5 at *
        have hMb := HM5.out.blk
        have hone := HM5.out.one
        have hRk := HR5.out
        rw [HK5] at hMb hone
        clear c1 zf hwr2 HK5
        go_wp2_with (first
          | (guard_target =~ Go.wpList _ _ _ ({ dst := _, op := Go.Op.load 28 _, type := _, pos := _, after := _, guard := none } :: _) _ _; refine ld4 rfl hMb ?_)
          | (guard_target =~ Go.wpList _ _ _ ({ dst := none, op := Go.Op.store 28 _ _, type := _, pos := _, after := _, guard := none } :: _) _ _; refine st4 rfl rfl hone hRk ?_))
        intro wz hz oz
        have HO : Hid (Off (fun b => b = X) w wz) := Lib.hid (HO5.out.trans oz (fun b h => .inr (by omega)))
        have HZ := Lib.hid (H5.out.off oz (fun e => by have := HXL.out; omega) (fun e => by have := H0L.out; omega) (fun e => by have := H0L.out; omega))
        have HJZ : Hid (JR wz (fun b => w.heap.size ≤ b ∧ b < wz.heap.size) (.mk kd [] ns vs) (.agg #[.int .i64 kd, .string ⟨#[]⟩, nv, lv])) := Lib.hid (by
          have hv := HM5.out.value (T' := fun b => V < b ∧ b < w5.heap.size) (fun b h1 h2 => ⟨h1, h2⟩)
          rw [HK.out] at hv
          exact JR.mono (fun b hb => ⟨by have := HWV.out; omega, by have := oz.size; omega⟩) _ _ (JR.off oz (fun b hb e => by have := HWV.out; omega) _ _ hv))
        clear hRk oz hMb hone
        go_wp2
        exact bodyPost_ret (by simp [results, Tryd.results53, go_sem, J4.c0 hz, J4.c1 hz, J4.c2 hz, J4.c3 hz]) rfl ⟨HO.out, .inl ⟨.mk kd [] ns vs, _, u1, by rw [← HK.out]; exact HI5.out, rfl, HJZ.out, HZ.out⟩⟩
      | true =>
        have HI4 : Hid (insF d obj s = loopX d obj ns vs u1) := Lib.hid hI4
        have HC := Lib.hid (member_any h4 HAV.out M4 (by omega) (by omega) (by omega) (fun x W hx hW => HV2.out x W (by omega) hW))
        rw [HK.out] at HC
        have HR4 := Lib.hid hR4
        have HO4 := Lib.hid o4
        have HN4 := Lib.hid hn4
        have HV4 := Lib.hid hv4
        have HAT := Lib.hid h4.lenOf
        clear h4 M4 hR4 o4 hn4 hv4 hI4
        go_wp2_with fail
        refine HC.out.mono ?_
        clear HC
        rintro e w5 ⟨o5, ⟨ns', s1, v, r, nv', lv', cs', T', hn, hg, rfl, h5, M5⟩ | ⟨z, hz, hz0, rfl⟩⟩
        · have R5 := HR4.out.off o5 (fun e => by have := HXL.out; have := HWV.out; omega)
          have O5 := off_new HO4.out o5 (by have := HWV.out; omega)
          have HR5 := Lib.hid R5
          have HO5 := Lib.hid O5
          have HM5 := Lib.hid M5
          have hnl := names_len7 hn
          have HNL := Lib.hid hnl
          have hbh := behind (d := d) (vs := vs) hn hg
          obtain ⟨t2, ht2⟩ : ∃ t, blanksL r = t := ⟨_, rfl⟩
          rw [ht2] at hbh
          clear hn hg R5 O5 M5 o5 hnl
          rcases hbh with ⟨x, hx, hxl, hL⟩ | ⟨x, hx, hx44, hxl, hL⟩ | ⟨hx44, hxe, hL⟩
          · have HT : Hid (Asks X (d + 1) r ⟨#[44]⟩ true (t2.drop 1)) := Lib.hid (asks_yes ht2 [44] (by rw [hx]; rfl))
            have HD1 : Hid (t2.drop 1 = x) := Lib.hid (by rw [hx]; rfl)
            have HI6 : Hid (insF d obj s = loopX d obj ns' (vs ++ [v]) x) := Lib.hid (by rw [HI4.out, hL])
            have HXL2 := Lib.hid hxl
            have H5 := Lib.hid h5
            clear hx hL ht2 hxl h5
            go_wp2_with fail
            refine (HT.out _ H5.out).mono ?_
            rintro e w6 ⟨rfl, h6, o6⟩
            rw [HD1.out] at h6
            have HAT6 := Lib.hid h6.lenOf
            have HSt : Hid (InSt X V w.heap.size d obj s w true w6) := Lib.hid ⟨x, ns', vs ++ [v], _, _, _, _, h6, by rw [HK.out]; exact HM5.out.off o6 (fun b hb => .inl (by rw [hb]; exact HAV.out.1)), HR5.out.off o6 (fun e => by have := HXL.out; omega), HO5.out.trans o6 (fun _ h => .inl h), by have := HN4.out; have := HNL.out; have := HXL2.out; omega, by have := HV4.out; have := HXL2.out; simp; omega, by rw [HI6.out]; rfl⟩
            clear h6 o6 HM5 HR5 HO5 H5 HT HD1 HI6
            go_wp2_with fail
            exact ⟨⟨true, rfl, HSt⟩, by show 1 + lenOf X w6 < 1 + lenOf X wr; rw [HAT6.out, HAT.out]; have := HXL2.out; omega⟩
          · have HT : Hid (Asks X (d + 1) r ⟨#[44]⟩ false t2) := Lib.hid (asks_no ht2 [44] hx44)
            have HT2 : Hid (Asks X (d + 1) t2 S true (t2.drop 1)) := Lib.hid (by rw [← HS.out]; exact asks_yes (by rw [← ht2]; exact blanks_idem r) [endC obj] (by rw [hx]; exact pre_self [endC obj] x))
            have HD1 : Hid (t2.drop 1 = x) := Lib.hid (by rw [hx]; rfl)
            have HI6 : Hid (insF d obj s = .ok (.mk (kindC obj) [] ns' (vs ++ [v]), x)) := Lib.hid (by rw [HI4.out, hL])
            have HXL2 := Lib.hid hxl
            have H5 := Lib.hid h5
            clear hx hL ht2 hxl h5 hx44
            go_wp2_with fail
            refine (HT.out _ H5.out).mono ?_
            rintro e w6 ⟨rfl, h6, o6⟩
            have H6 := Lib.hid h6
            have HO6 := Lib.hid o6
            clear h6 o6 HT H5
            go_wp2_with fail
            refine (HT2.out _ H6.out).mono ?_
            rintro e w7 ⟨rfl, h7, o7⟩
            rw [HD1.out] at h7
            have o57 : Off (fun b => b = X) w5 w7 := HO6.out.trans o7 (fun _ h => .inl h)
            have HSt : Hid (InSt X V w.heap.size d obj s w false w7) := Lib.hid ⟨x, ns', vs ++ [v], _, _, _, _, h7, by rw [HK.out]; exact HM5.out.off o57 (fun b hb => .inl (by rw [hb]; exact HAV.out.1)), HR5.out.off o57 (fun e => by have := HXL.out; omega), HO5.out.trans o57 (fun _ h => .inl h), by have := HN4.out; have := HNL.out; have := HXL2.out; omega, by have := HV4.out; have := HXL2.out; simp; omega, by rw [HI6.out]; rfl⟩
            clear h7 o7 o57 HM5 HR5 HO5 H6 HO6 HT2 HD1 HI6
            go_wp2_with fail
            exact ⟨⟨false, rfl, HSt⟩, by show 0 < 1 + lenOf X wr; omega⟩
          · have HT : Hid (Asks X (d + 1) r ⟨#[44]⟩ false t2) := Lib.hid (asks_no ht2 [44] hx44)
            have HT2 : Hid (Asks X (d + 1) t2 S false t2) := Lib.hid (by rw [← HS.out]; exact asks_no (by rw [← ht2]; exact blanks_idem r) [endC obj] hxe)
            have HI6 : Hid (insF d obj s = .error 70) := Lib.hid (by rw [HI4.out, hL])
            have H5 := Lib.hid h5
            clear hL ht2 h5 hx44 hxe
            go_wp2_with fail
            refine (HT.out _ H5.out).mono ?_
            rintro e w6 ⟨rfl, h6, o6⟩
            have H6 := Lib.hid h6
            have HO6 := Lib.hid o6
            clear h6 o6 HT H5
            go_wp2_with fail
            refine (HT2.out _ H6.out).mono ?_
            rintro e w7 ⟨rfl, h7, o7⟩
            have o57 : Off (fun b => b = X) w5 w7 := HO6.out.trans o7 (fun _ h => .inl h)
            have hRk := HR5.out.off o57 (fun e => by have := HXL.out; omega)
            have HOk := Lib.hid (HO5.out.trans o57 (fun _ h => .inl h))
            clear h7 o7 o57 HM5 HR5 HO5 H6 HO6 HT2
            go_wp2_with (guard_target =~ Go.wpList _ _ _ ({ dst := none, op := Go.Op.store 28 _ _, type := _, pos := _, after := _, guard := none } :: _) _ _; refine st4 rfl rfl ⟨rfl, rfl, rfl, rfl⟩ hRk ?_)
            intro wz hz oz
            have HO : Hid (Off (fun b => b = X) w wz) := Lib.hid (HOk.out.trans oz (fun b h => .inr (by omega)))
            clear hRk oz
            go_wp2
            exact bodyPost_ret (by simp [results, Tryd.results53, go_sem, J4.c0 hz, J4.c1 hz, J4.c2 hz, J4.c3 hz]) rfl ⟨HO.out, .inr ⟨70, HI6.out, by decide, rfl⟩⟩
        · have hRk := HR4.out.off o5 (fun e => by have := HXL.out; have := HWV.out; omega)
          have HOk := Lib.hid (off_new HO4.out o5 (by have := HWV.out; omega))
          have hzb : (z == 0) = false := by rw [beq_eq_false_iff_ne]; exact hz0
          have HI6 : Hid (insF d obj s = .error z) := Lib.hid (by
            rw [HI4.out]
            rcases hz with ⟨hn, rfl⟩ | ⟨ns', s1, hn, hv⟩
            · exact loopX_noname hn
            · exact loopX_bad hn hv)
          clear hz o5
          go_wp2_with (guard_target =~ Go.wpList _ _ _ ({ dst := none, op := Go.Op.store 28 _ _, type := _, pos := _, after := _, guard := none } :: _) _ _; refine st4 rfl rfl ⟨rfl, rfl, rfl, rfl⟩ hRk ?_)
          intro wz hz oz
          have HO : Hid (Off (fun b => b = X) w wz) := Lib.hid (HOk.out.trans oz (fun b h => .inr (by omega)))
          clear hRk oz
          go_wp2
          exact bodyPost_ret (by simp [results, Tryd.results53, go_sem, J4.c0 hz, J4.c1 hz, J4.c2 hz, J4.c3 hz]) rfl ⟨HO.out, .inr ⟨z, HI6.out, hz0, rfl⟩⟩
end Go.Proofs.YtchgelfomnbpaaaDoor
namespace Go.Proofs.YtchgelfomnbpaaaDoor
open Go.RowKit
open Go.Lib

theorem val_all : ∀ (N X d : Nat) (s : Bt) (w : World), PS X s d w → d ≤ 24 → s.length ≤ N → N ≤ 100000 → Calls Tryd.prog 34 (VArgs X) w (VOut X d s w)
  | 0, _, _, _, _, h, _, hl, _ => val_step h (by omega) (fun _ _ _ hu _ => absurd hu (by omega))
  | N + 1, X, d, s, _, h, hd, hl, hN => val_step h (by omega) (fun _ u W hu hW => inside_any hW hd (by omega) (fun h24 u' W' hu' hW' => val_all N X (d + 1) u' W' hW' (by omega) (by omega) (by omega)))
def exW (s : Bt) : Except Int JV := match valX 0 s with | .error e => .error e | .ok (v, r) => if blanksL r = [] then .ok v else .error 70
def exV : Except Int JV → JV | .ok v => v | .error _ => .mk 0 [] [] []
def exE : Except Int JV → Int | .ok _ => 0 | .error e => e
/-- A parse's answer. -/
def XOut (F : Nat → Prop) (p : Except Int JV) (w0 : World) (e : Ending) (w' : World) : Prop := Off F w0 w' ∧ ∃ x0 x1 x2 x3, e = .returned (.tuple #[.agg #[x0, x1, x2, x3], .int .i64 (exE p)]) ∧ One4 x0 x1 x2 x3 ∧ JR w' (fun b => w0.heap.size ≤ b ∧ b < w'.heap.size) (exV p) (.agg #[x0, x1, x2, x3])
theorem XOut.err {F : Nat → Prop} {p : Except Int JV} {z : Int} {w0 w' : World} (h : p = .error z) (ho : Off F w0 w') : XOut F p w0 (.returned (.tuple #[zeroJ, .int .i64 z])) w' := by
  subst h
  exact ⟨ho, _, _, _, _, rfl, ⟨rfl, rfl, rfl, rfl⟩, jr_nil _ _ 0⟩
theorem XOut.good {F : Nat → Prop} {p : Except Int JV} {v : JV} {x0 x1 x2 x3 : Value} {w0 w' : World} (h : p = .ok v) (ho : Off F w0 w') (hj : JR w' (fun b => w0.heap.size ≤ b ∧ b < w'.heap.size) v (.agg #[x0, x1, x2, x3])) (h1 : One4 x0 x1 x2 x3) : XOut F p w0 (.returned (.tuple #[.agg #[x0, x1, x2, x3], .int .i64 0])) w' := by
  subst h
  exact ⟨ho, _, _, _, _, rfl, h1, hj⟩
set_option maxRecDepth 100000 in
set_option maxHeartbeats 2000000 in
theorem whole_any {X : Nat} {s : Bt} {w : World} (h : PS X s 0 w) (hl : s.length ≤ 100000) :
    Calls Tryd.prog 22 (VArgs X) w (XOut (fun b => b = X) (exW s) w) := by
  have hR : JZ w.heap.size (w.alloc (.cells #[.int .i64 0, .string ⟨#[]⟩, .slice none 0 0, .slice none 0 0] 28)) := Blk.new _ w
  have HXL := Lib.hid h.lt
  have H0L : Hid (0 < w.heap.size ∧ 1 < w.heap.size) := Lib.hid h.tabs.lt
  have H0 : Hid (PS X s 0 (w.alloc (.cells #[.int .i64 0, .string ⟨#[]⟩, .slice none 0 0, .slice none 0 0] 28))) := Lib.hid (h.below ((Below.refl _ _).alloc (Nat.le_refl _) _))
  have hbs : (w.alloc (.cells #[.int .i64 0, .string ⟨#[]⟩, .slice none 0 0, .slice none 0 0] 28)).heap.size = w.heap.size + 1 := by simp
  have HBS := Lib.hid hbs
  have o0 : Off (fun b => b = X) w (w.alloc (.cells #[.int .i64 0, .string ⟨#[]⟩, .slice none 0 0, .slice none 0 0] 28)) := (Off.of_below ((Below.refl _ _).alloc (Nat.le_refl _) _)).mono (fun _ h => h.elim)
  have HO0 := Lib.hid o0
  have HV := Lib.hid (val_all s.length X 0 s _ H0.out (by omega) (Nat.le_refl _) hl)
  have HR := Lib.hid hR
  clear h hbs hR o0
  go_enter Tryd.func22, Tryd.ntmps22
  go_wp2_with fail
  refine HV.out.mono ?_
  clear HV
  rintro e w1 ⟨o1, ⟨v, x, r, hv, rfl, hj, h1⟩ | ⟨z, hz, hz0, rfl⟩⟩
  · obtain ⟨x0, x1, x2, x3, rfl, hone⟩ := jr_one hj
    have hM1 : JZ w1.heap.size (w1.alloc (.cells #[.int .i64 0, .string ⟨#[]⟩, .slice none 0 0, .slice none 0 0] 28)) := Blk.new _ w1
    have hs1 := o1.size
    go_wp2_with (guard_target =~ Go.wpList _ _ _ ({ dst := none, op := Go.Op.store 28 _ _, type := _, pos := _, after := _, guard := none } :: _) _ _; refine st4 rfl rfl hone hM1 ?_)
    intro w2 hM2 o2
    have oA : Off (fun b => b = w1.heap.size) w1 w2 := ((Off.of_below ((Below.refl _ _).alloc (Nat.le_refl _) _)).mono (fun _ h => h.elim)).trans o2 (fun _ h => .inl h)
    have hbs := HBS.out
    have h2 : PS X r 0 w2 := h1.off oA (fun e => by have := HXL.out; omega) (fun e => by have := H0L.out; omega) (fun e => by have := H0L.out; omega)
    have hR2 := (HR.out.off o1 (fun e => by have := HXL.out; omega)).off oA (fun e => by omega)
    have O2 : Off (fun b => b = X) w w2 := (HO0.out.trans o1 (fun _ h => .inl h)).trans oA (fun b h => .inr (by omega))
    have hj2 : JR w2 (fun b => w.heap.size < b ∧ b < w1.heap.size) v (.agg #[x0, x1, x2, x3]) := JR.mono (fun b hb => ⟨by omega, hb.2⟩) v _ (JR.off oA (fun b hb e => by omega) v _ hj)
    obtain ⟨M, hM⟩ : ∃ M, w1.heap.size = M := ⟨_, rfl⟩
    have hMl : w.heap.size < M := by omega
    have hMl2 : M < w2.heap.size := by have := hM2.lt; omega
    rw [hM] at hM2 hj2 ⊢
    have HM2 := Lib.hid hM2
    have HR2 := Lib.hid hR2
    have HO2 := Lib.hid O2
    have HJ2 := Lib.hid hj2
    have HMl := Lib.hid hMl
    have HMl2 := Lib.hid hMl2
    obtain ⟨t, ht⟩ : ∃ t, blanksL r = t := ⟨_, rfl⟩
    have HT : Hid (Calls Tryd.prog 35 #[.pointer (some ⟨X, 0, none⟩)] w2 fun e w' => e = .returned (.tuple #[]) ∧ PS X t 0 w' ∧ Off (fun b => b = X) w2 w') := Lib.hid (pskip_any h2 ht)
    have HW : Hid (exW s = if t = [] then .ok v else .error 70) := Lib.hid (by
      unfold exW
      rcases hv with hv | ⟨hv, c, u, hr, hc⟩
      · rw [hv]; dsimp only; rw [ht]
      · rw [hv]
        have := (digit_pre (t := u) hc true).1
        rw [← ht, hr, this, if_neg (by simp)])
    clear hM2 hM1 o1 oA o2 h1 h2 hR2 O2 hj hj2 hbs hs1 hM hMl hMl2 ht hv
    go_wp2_with fail
    refine HT.out.mono ?_
    clear HT
    rintro e w3 ⟨rfl, h3, o3⟩
    have c0 := h3.c0
    have hR3 := HR2.out.off o3 (fun e => by have := HXL.out; omega)
    have hM3 := HM2.out.off o3 (fun e => by have := HXL.out; have := HMl.out; omega)
    have O3 := HO2.out.trans o3 (fun _ h => .inl h)
    have HO3 := Lib.hid O3
    have HJ3 : Hid (JR w3 (fun b => w.heap.size < b ∧ b < M) v (.agg #[x0, x1, x2, x3])) := Lib.hid (JR.off o3 (fun b hb e => by have := HXL.out; omega) v _ HJ2.out)
    have HMR : Hid (M < w3.heap.size ∧ M ≠ w.heap.size) := Lib.hid ⟨by have := o3.size; have := HMl2.out; omega, by have := HMl.out; omega⟩
    clear h3 o3 O3 HM2 HR2 HO2 HJ2
    by_cases hte : t = []
    · have hne : (bs t).toList = [] := by rw [Lib.toList_data, bs_list, hte]
      have HE : Hid (exW s = .ok v) := Lib.hid (by rw [HW.out, if_pos hte])
      obtain ⟨S, hS⟩ : ∃ S, bs t = S := ⟨_, rfl⟩
      rw [hS] at hne c0
      clear hte hS HW
      go_wp2_with (first
        | (guard_target =~ Go.wpList _ _ _ ({ dst := _, op := Go.Op.load 28 _, type := _, pos := _, after := _, guard := none } :: _) _ _; refine ld4 rfl hM3 ?_)
        | (guard_target =~ Go.wpList _ _ _ ({ dst := none, op := Go.Op.store 28 _ _, type := _, pos := _, after := _, guard := none } :: _) _ _; refine st4 rfl rfl hone hR3 ?_))
      intro wz hz oz
      have HO : Hid (Off (fun b => b = X) w wz) := Lib.hid (HO3.out.trans oz (fun b h => .inr (by omega)))
      have HJZ : Hid (JR wz (fun b => w.heap.size ≤ b ∧ b < wz.heap.size) v (.agg #[x0, x1, x2, x3])) := Lib.hid (JR.mono (fun b hb => ⟨by omega, by have := oz.size; have := HMR.out; omega⟩) v _ (JR.off oz (fun b hb e => by omega) v _ HJ3.out))
      clear hR3 hM3 oz c0 hne
      go_wp2
      exact bodyPost_ret (by simp [results, Tryd.results22, go_sem, J4.c0 hz, J4.c1 hz, J4.c2 hz, J4.c3 hz]) rfl (XOut.good HE.out HO.out HJZ.out hone)
    · have hne : (!(bs t).toList.isEmpty) = true := by
        rw [Lib.toList_data, bs_list]
        cases t with
        | nil => exact absurd rfl hte
        | cons c u => rfl
      have HE : Hid (exW s = .error 70) := Lib.hid (by rw [HW.out, if_neg hte])
      obtain ⟨S, hS⟩ : ∃ S, bs t = S := ⟨_, rfl⟩
      rw [hS] at hne c0
      clear hte hS HW
      go_wp2_with (guard_target =~ Go.wpList _ _ _ ({ dst := none, op := Go.Op.store 28 _ _, type := _, pos := _, after := _, guard := none } :: _) _ _; refine st4 rfl rfl ⟨rfl, rfl, rfl, rfl⟩ hR3 ?_)
      intro wz hz oz
      have HO : Hid (Off (fun b => b = X) w wz) := Lib.hid (HO3.out.trans oz (fun b h => .inr (by omega)))
      clear hR3 hM3 oz c0 hne
      go_wp2
      exact bodyPost_ret (by simp [results, Tryd.results22, go_sem, J4.c0 hz, J4.c1 hz, J4.c2 hz, J4.c3 hz]) rfl (XOut.err HE.out HO.out)
  · have hM1 : JZ w1.heap.size (w1.alloc (.cells #[.int .i64 0, .string ⟨#[]⟩, .slice none 0 0, .slice none 0 0] 28)) := Blk.new _ w1
    have hs1 := o1.size
    have hbs := HBS.out
    go_upto_region 2 with (guard_target =~ Go.wpList _ _ _ ({ dst := none, op := Go.Op.store 28 _ _, type := _, pos := _, after := _, guard := none } :: _) _ _; refine st4 rfl rfl ⟨rfl, rfl, rfl, rfl⟩ hM1 ?_)
    intro w2 hM2 o2
    have oA : Off (fun b => b = w1.heap.size) w1 w2 := ((Off.of_below ((Below.refl _ _).alloc (Nat.le_refl _) _)).mono (fun _ h => h.elim)).trans o2 (fun _ h => .inl h)
    have hR2 := (HR.out.off o1 (fun e => by have := HXL.out; omega)).off oA (fun e => by omega)
    have HO2 := Lib.hid ((HO0.out.trans o1 (fun _ h => .inl h)).trans oA (fun b h => .inr (by omega)))
    have HE : Hid (exW s = .error z) := Lib.hid (by unfold exW; rw [hz])
    have hzb : (z == 0) = false := by rw [beq_eq_false_iff_ne]; exact hz0
    clear hM1 hs1 hbs hM2 oA o1 o2 hz
    go_wp2_with (guard_target =~ Go.wpList _ _ _ ({ dst := none, op := Go.Op.store 28 _ _, type := _, pos := _, after := _, guard := none } :: _) _ _; refine st4 rfl rfl ⟨rfl, rfl, rfl, rfl⟩ hR2 ?_)
    intro wz hz oz
    have HO : Hid (Off (fun b => b = X) w wz) := Lib.hid (HO2.out.trans oz (fun b h => .inr (by omega)))
    clear hR2 oz
    go_wp2
    exact bodyPost_ret (by simp [results, Tryd.results22, go_sem, J4.c0 hz, J4.c1 hz, J4.c2 hz, J4.c3 hz]) rfl (XOut.err HE.out HO.out)
end Go.Proofs.YtchgelfomnbpaaaDoor
namespace Go.Proofs.YtchgelfomnbpaaaDoor
open Go.RowKit
open Go.Lib

theorem conv_rb7 {w : World} {A : Option Addr} {l : Bs} (c : Nat) (h : RB w A l) : (convert 22 9 (.slice A l.length c)).run Tryd.prog w = .ok (.string (bs l)) w := by
  cases l with
  | nil =>
    cases A with
    | none => exact run_convert_bytes_nil w 22 5 Tryd.underlying22 Tryd.underlying5 0 c 9 Tryd.underlying9
    | some a => exact run_convert_bytes_back w 22 9 5 a c [] Tryd.underlying22 Tryd.underlying5 Tryd.underlying9 (fun j hj => absurd hj (Nat.not_lt_zero _))
  | cons x r =>
    obtain ⟨b, off, rfl, hbl, hcs⟩ := h (by simp)
    refine run_convert_bytes_back w 22 9 5 ⟨b, off, none⟩ c (x :: r) Tryd.underlying22 Tryd.underlying5 Tryd.underlying9 fun j hj => ?_
    rw [Addr.add_mid, hcs j hj]
    simp [bf, List.getD, List.getElem?_eq_getElem hj]
theorem conv_slice7 {w : World} {A : Option Addr} {l : Bs} {n : Nat} (c : Nat) (hn : l.length = n) (h : RB w A l) : (convert 22 9 (.slice A n c)).run Tryd.prog w = .ok (.string (bs l)) w := by
  subst hn
  exact conv_rb7 c h
theorem blk2_there {b : Nat} {x0 x1 : Value} {T : TypeId} {w : World} (H : Blk b (.cells #[x0, x1] T (0, 0)) w) : w.there b 0 2 := fun j hj => by
  rw [Nat.zero_add]
  refine ⟨?_, Blk.free H j⟩
  rw [Blk.cell H j, Array.getElem?_eq_getElem (by show j < 2; exact hj)]; rfl
theorem blk2_stored {b : Nat} {x0 x1 : Value} {T : TypeId} {w : World} (H : Blk b (.cells #[x0, x1] T (0, 0)) w) (y0 y1 : Value) : Blk b (.cells #[y0, y1] T (0, 0)) (w.setCells b 0 [y0, y1]) := by
  have h0 := blk_sets7 [y0, y1] 0 _ _ H
  have e : setsA7 #[x0, x1] 0 [y0, y1] = #[y0, y1] := by simp [setsA7]
  rw [e] at h0
  exact h0
theorem stR {ops : Array Oper} {rest : List Oper} {act : Act} {w : World} {Q : Exit → Act → World → Prop} {ty : TypeId} {pos : String} {af : Array Edge} {i j b : Nat} {x0 x1 y0 y1 : Value}
    (hx : act.eval (.tmp i) = .pointer (some ⟨b, 0, none⟩)) (hy : act.eval (.tmp j) = .agg #[y0, y1]) (h0 : y0.oneCell' = true) (h1 : y1.oneCell' = true) (H : Blk b (.cells #[x0, x1] TRd (0, 0)) w)
    (k : ∀ w', Blk b (.cells #[y0, y1] TRd (0, 0)) w' → Off (fun k => k = b) w w' → wpList Tryd.prog ops Q rest act w') :
    wpList Tryd.prog ops Q ({ dst := none, op := .store 53 (.tmp i) (.tmp j), type := ty, pos := pos, after := af, guard := none } :: rest) act w :=
  wpList_store_mid rfl _ _ _ rfl b 0 #[y0, y1] hx hy (blk2_there H) (by kernel_rfl) (by rw [← Array.all_toList]; show ([y0, y1] : List Value).all _ = true; simp [List.all, h0, h1]) (k _ (blk2_stored H y0 y1) (off_sets7 _ _ _ _))
theorem parse_big {b : Bt} (h : 65536 < b.length) : parseJ b = .error 72 := by rw [parseX, if_pos h]
theorem parse_small {b : Bt} (h : ¬ 65536 < b.length) : parseJ b = exW b := by rw [parseX, if_neg h]; rfl
set_option maxRecDepth 100000 in
set_option maxHeartbeats 2000000 in
theorem parse_any {b : Bt} {A : Option Addr} {n c : Nat} {w : World} (hn : b.length = n) (hb : RB w A b) (hT : Tabs w) :
    Calls Tryd.prog 10 #[.slice A n c] w (XOut (fun _ => False) (parseJ b) w) := by
  have hR : JZ w.heap.size (w.alloc (.cells #[.int .i64 0, .string ⟨#[]⟩, .slice none 0 0, .slice none 0 0] 28)) := Blk.new _ w
  by_cases hbig : 65536 < n
  · have hbi : (65536 : Int) < (n : Int) := by omega
    have HE := Lib.hid (parse_big (by rw [hn]; exact hbig))
    clear hb hT hn
    go_enter Tryd.func10, Tryd.ntmps10
    go_wp2_with (guard_target =~ Go.wpList _ _ _ ({ dst := none, op := Go.Op.store 28 _ _, type := _, pos := _, after := _, guard := none } :: _) _ _; refine st4 rfl rfl ⟨rfl, rfl, rfl, rfl⟩ hR ?_)
    intro wz hz oz
    have HO : Hid (Off (fun _ => False) w wz) := Lib.hid ((((Off.of_below ((Below.refl _ _).alloc (Nat.le_refl _) _))).trans oz (fun b h => .inr (by omega))))
    clear hR oz
    go_wp2
    exact bodyPost_ret (by simp [results, Tryd.results10, go_sem, J4.c0 hz, J4.c1 hz, J4.c2 hz, J4.c3 hz]) rfl (XOut.err HE.out HO.out)
  · have hbi : ¬ (65536 : Int) < (n : Int) := by omega
    have HE := Lib.hid (parse_small (by rw [hn]; exact hbig))
    have B0 : Below w.heap.size w (w.alloc (.cells #[.int .i64 0, .string ⟨#[]⟩, .slice none 0 0, .slice none 0 0] 28)) := (Below.refl _ _).alloc (Nat.le_refl _) _
    have hcv := conv_slice7 c hn (hb.below B0)
    have HT := Lib.hid hT
    have HN := Lib.hid hn
    have HB0 := Lib.hid B0
    have HR := Lib.hid hR
    clear hb hT hn B0 hR
    go_enter Tryd.func10, Tryd.ntmps10
    obtain ⟨w0, hw0⟩ : ∃ V, w.alloc (.cells #[.int .i64 0, .string ⟨#[]⟩, .slice none 0 0, .slice none 0 0] 28) = V := ⟨_, rfl⟩
    have hbs : w0.heap.size = w.heap.size + 1 := by rw [← hw0]; simp
    have HBS := Lib.hid hbs
    rw [hw0] at hcv HB0 HR
    have hX : Blk (w.heap.size + 1) (.cells #[.string ⟨#[]⟩, .int .i64 0] TRd (0, 0)) (w0.alloc (.cells #[.string ⟨#[]⟩, .int .i64 0] TRd)) := by
      have := Blk.new (.cells #[.string ⟨#[]⟩, .int .i64 0] TRd (0, 0)) w0
      rw [hbs] at this
      exact this
    subst hw0
    go_wp2_with (guard_target =~ Go.wpList _ _ _ ({ dst := none, op := Go.Op.store 53 _ _, type := _, pos := _, after := _, guard := none } :: _) _ _; refine stR rfl rfl rfl rfl hX ?_)
    clear hcv hX
    intro w2 hX2 o2
    obtain ⟨w0, hw0⟩ : ∃ V, w.alloc (.cells #[.int .i64 0, .string ⟨#[]⟩, .slice none 0 0, .slice none 0 0] 28) = V := ⟨_, rfl⟩
    rw [hw0] at hbs HB0 HR HBS o2
    have oA : Off (fun b => b = w.heap.size + 1) w0 w2 := ((Off.of_below ((Below.refl _ _).alloc (Nat.le_refl _) _)).mono (fun _ h => h.elim)).trans o2 (fun b h => .inl h)
    have hT0 := HT.out.lt
    have hT2 : Tabs w2 := (HT.out.off (Off.of_below HB0.out) (fun h => h) (fun h => h)).off oA (fun e => by omega) (fun e => by omega)
    have hP : PS (w.heap.size + 1) b 0 w2 := ⟨hX2, hT2, ⟨fun e => by omega, fun e => by omega⟩⟩
    have HR2 : Hid (JZ w.heap.size w2) := Lib.hid (HR.out.off oA (fun e => by omega))
    have HO2 : Hid (Off (fun _ => False) w w2) := Lib.hid ((Off.of_below HB0.out).trans oA (fun b h => .inr (by omega)))
    have HC := Lib.hid (whole_any hP (by have := HN.out; omega))
    have hXL : w.heap.size + 1 < w2.heap.size := hX2.lt
    obtain ⟨X, hX⟩ : ∃ X, w.heap.size + 1 = X := ⟨_, rfl⟩
    rw [hX] at HC hbs hXL ⊢
    have HX : Hid (X = w.heap.size + 1 ∧ X < w2.heap.size) := Lib.hid ⟨hX.symm, hXL⟩
    clear hX2 o2 oA hT2 hP hbs hT0 hXL HBS
    go_wp2_with fail
    refine HC.out.mono ?_
    clear HC
    rintro e w3 ⟨o3, x0, x1, x2, x3, rfl, hone, hj⟩
    have hR3 := HR2.out.off o3 (fun e => by have := HX.out; omega)
    have HO3 : Hid (Off (fun _ => False) w w3) := Lib.hid (HO2.out.trans o3 (fun b h => .inr (by have := HX.out; omega)))
    have HJ3 := Lib.hid hj
    obtain ⟨z, hz0⟩ : ∃ z, exE (exW b) = z := ⟨_, rfl⟩
    rw [hz0]
    have HZ := Lib.hid hz0
    clear o3 hj hz0
    go_wp2_with (guard_target =~ Go.wpList _ _ _ ({ dst := none, op := Go.Op.store 28 _ _, type := _, pos := _, after := _, guard := none } :: _) _ _; refine st4 rfl rfl hone hR3 ?_)
    intro wz hz oz
    have HO : Hid (Off (fun _ => False) w wz) := Lib.hid (HO3.out.trans oz (fun b h => .inr (by omega)))
    have HJZ : Hid (JR wz (fun b => w.heap.size ≤ b ∧ b < wz.heap.size) (exV (exW b)) (.agg #[x0, x1, x2, x3])) := Lib.hid (JR.mono (fun b hb => ⟨by have := HX.out; omega, by have := oz.size; omega⟩) _ _ (JR.off oz (fun b hb e => by have := HX.out; omega) _ _ HJ3.out))
    clear hR3 oz
    go_wp2
    exact bodyPost_ret (v := .tuple #[.agg #[x0, x1, x2, x3], .int .i64 z]) (by simp [results, Tryd.results10, go_sem, J4.c0 hz, J4.c1 hz, J4.c2 hz, J4.c3 hz]) rfl ⟨HO.out, x0, x1, x2, x3, by rw [HE.out, HZ.out], hone, by rw [HE.out]; exact HJZ.out⟩
end Go.Proofs.YtchgelfomnbpaaaDoor
