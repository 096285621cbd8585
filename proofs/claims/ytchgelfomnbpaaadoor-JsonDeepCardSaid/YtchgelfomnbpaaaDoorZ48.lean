/-
  The document's value of JSON. Conditions: modest lengths.
-/
import Derived.Test.YtchgelfomnbpaaaDoorZ47
namespace Go.Proofs.YtchgelfomnbpaaaDoor
open Go.RowKit
open Go.Lib

theorem ownv_form {w : World} {B n : Nat} {v : Value} {cs : List Value} (h : OwV w B v n cs) : ∃ A c, v = .slice A n c := by
  rcases h.2 with ⟨e, h0⟩ | ⟨g, cap, cur, e, _⟩
  · exact ⟨none, 0, by rw [e, h0]⟩
  · exact ⟨_, cap, e⟩
/-- Between two members. -/
def DSt (X V R d k : Nat) (obj : Bool) (s : Bt) (w0 wr : World) : Prop := ∃ k' ns vs nv lv cs T, TS X s k' wr ∧ MV V (kindC obj) nv lv cs T ns vs wr ∧ JZ R wr ∧ Off (fun b => b = X) w0 wr ∧ k + 1 ≤ k' ∧ k' ≤ s.length ∧ ns.length + s.length ≤ s.length + k' ∧ vs.length + s.length ≤ s.length + k' ∧
  valX d (s.drop k) = loopX d obj ns vs (s.drop k')
def DHave (X d k : Nat) (s : Bt) : Prop := ∀ k' W, k + 1 ≤ k' → k' ≤ s.length → TS X s k' W → Calls Tryd.prog 23 #[.pointer (some ⟨X, 0, none⟩), .int .i64 ((d : Int) + 1)] W (DOut X (d + 1) s k' W)
theorem member_len7 {ns : List Bt} {s r : Bt} {x : Bt} (h : namesL true ns s = some (ns ++ [x], r)) : r.length < s.length := by
  obtain ⟨y, hy, _⟩ := (names_stay h).2 rfl
  exact member_len hy
set_option maxRecDepth 100000 in
set_option maxHeartbeats 4000000 in
theorem dval_list {X d k : Nat} {s t : Bt} {w : World} (h : TS X s k w) (hk : k ≤ s.length) (ht : blanksL (s.drop k) = t) (hs : s.length ≤ 100000) (hh : t.head? = some 91) (hd9 : d ≤ 24) (HV : d < 24 → DHave X d k s) :
    Calls Tryd.prog 23 (DArgs X d) w (DOut X d s k w) := by
  have hR : JZ w.heap.size (w.alloc (.cells #[.int .i64 0, .string ⟨#[]⟩, .slice none 0 0, .slice none 0 0] 28)) := Blk.new _ w
  have HXL := Lib.hid h.lt
  have h0 : TS X s k (w.alloc (.cells #[.int .i64 0, .string ⟨#[]⟩, .slice none 0 0, .slice none 0 0] 28)) := h.below ((Below.refl _ _).alloc (Nat.le_refl _) _)
  have HBL := Lib.hid (tblanks_any h0 hk (by omega))
  have HR := Lib.hid hR
  have HT := Lib.hid ht
  have HS := Lib.hid hs
  have HH := Lib.hid hh
  have HKK0 := Lib.hid hk
  have HVH := Lib.hid HV
  have nn : List.isPrefixOf [110, 117, 108, 108] t = false := brk_word (obj := false) hh (by decide) _
  have nf : List.isPrefixOf [102, 97, 108, 115, 101] t = false := brk_word (obj := false) hh (by decide) _
  have nt : List.isPrefixOf [116, 114, 117, 101] t = false := brk_word (obj := false) hh (by decide) _
  have HNn := Lib.hid nn
  have HNf := Lib.hid nf
  have HNt := Lib.hid nt
  clear nn nf nt hh HV
  clear h h0 hR ht hk hs
  go_enter Tryd.func23, Tryd.ntmps23
  go_wp2_with fail
  refine HBL.out.mono ?_
  clear HBL
  rintro e w1 ⟨rfl, k1, hkk, hk1, hd1, h1, o1⟩
  have HKK : Hid (k ≤ k1) := Lib.hid hkk
  clear hkk
  rw [HT.out] at hd1
  have HNX := Lib.hid (tnext_any h1 hk1)
  obtain ⟨z, hz⟩ : ∃ z, nextZ s k1 = z := ⟨_, rfl⟩
  rw [hz] at HNX
  have HZ : Hid (∀ d : UInt8, d ≠ 0 → (z == (d.toNat : Int)) = decide (t.head? = some d)) := Lib.hid (fun d hd => by rw [← hz, next_is hd, hd1])
  have HO1 := Lib.hid o1
  have H1 := Lib.hid h1
  have HK1 := Lib.hid hk1
  have HD1 := Lib.hid hd1
  clear hz hk1 hd1 h1 o1
  go_wp2_with fail
  refine HNX.out.mono ?_
  clear HNX
  rintro e w2 ⟨rfl, b2⟩
  have HO2 := Lib.hid (HO1.out.trans (Off.of_below b2) (fun _ h => h.elim))
  have H2 := Lib.hid (H1.out.below b2)
  clear b2 HO1 H1
  have Kn := Lib.hid (askst (X := X) HK1.out HS.out [110, 117, 108, 108] (by decide) false (by rw [HD1.out]; exact HNn.out))
  go_wp2_with fail
  refine (Kn.out _ H2.out).mono ?_
  rintro e w3 ⟨rfl, h3, o3⟩
  have HO3 := Lib.hid (HO2.out.trans o3 (fun _ h => .inl h))
  have H3 : Hid (TS X s k1 w3) := Lib.hid h3
  clear h3 o3 Kn H2 HO2
  have Kf := Lib.hid (askst (X := X) HK1.out HS.out [102, 97, 108, 115, 101] (by decide) false (by rw [HD1.out]; exact HNf.out))
  go_wp2_with fail
  refine (Kf.out _ H3.out).mono ?_
  rintro e w4 ⟨rfl, h4, o4⟩
  have HO4 := Lib.hid (HO3.out.trans o4 (fun _ h => .inl h))
  have H4 : Hid (TS X s k1 w4) := Lib.hid h4
  clear h4 o4 Kf H3 HO3
  have Kt := Lib.hid (askst (X := X) HK1.out HS.out [116, 114, 117, 101] (by decide) false (by rw [HD1.out]; exact HNt.out))
  go_wp2_with fail
  refine (Kt.out _ H4.out).mono ?_
  rintro e w5 ⟨rfl, h5, o5⟩
  have HO5 := Lib.hid (HO4.out.trans o5 (fun _ h => .inl h))
  have H5 : Hid (TS X s k1 w5) := Lib.hid h5
  clear h5 o5 Kt H4 HO4
  have hz : z = 91 := by
    have := HZ.out 91 (by decide)
    rw [HH.out, decide_eq_true rfl, beq_iff_eq] at this
    exact this
  subst hz
  clear HZ
  obtain ⟨wA, hwA⟩ : ∃ W, w.alloc (.cells #[.int .i64 0, .string ⟨#[]⟩, .slice none 0 0, .slice none 0 0] 28) = W := ⟨_, rfl⟩
  have hsA : wA.heap.size = w.heap.size + 1 := by rw [← hwA]; simp
  rw [hwA] at HR HO5
  have HSA := Lib.hid hsA
  have HWA := Lib.hid hwA
  have HVO : Hid (valX d (s.drop k) = insF d false (s.drop (k1 + 1))) := Lib.hid (by
    rw [valX_open (obj := false) (by rw [HT.out]; exact head_some HH.out), ← List.drop_drop, HD1.out])
  have HK1L : Hid (k1 + 1 ≤ s.length) := Lib.hid (by
    have := (drop_succ7 (HD1.out.trans (head_some HH.out))).2
    exact this)
  clear hsA hwA
  by_cases h24 : d = 24
  · have HI : Hid (valX d (s.drop k) = .error 71) := Lib.hid (by rw [HVO.out]; unfold insF; rw [if_pos h24])
    have hdk : ((d : Int) == 24) = true := by rw [beq_iff_eq]; omega
    have hoff : Off (fun b => b = X) (w.alloc (.cells #[.int .i64 0, .string ⟨#[]⟩, .slice none 0 0, .slice none 0 0] 28)) w5 := by rw [HWA.out]; exact HO5.out
    have hRr : JZ w.heap.size w5 := HR.out.off HO5.out (fun e => by have := HXL.out; omega)
    clear h24
    have hRk := hRr
    have HOk := Lib.hid (hoff)
    go_wp2_with (guard_target =~ Go.wpList _ _ _ ({ dst := none, op := Go.Op.store 28 _ _, type := _, pos := _, after := _, guard := none } :: _) _ _; refine st4 rfl rfl ⟨rfl, rfl, rfl, rfl⟩ hRk ?_)
    intro wz hz oz
    have HO := Lib.hid (off_res HXL.out HOk.out oz)
    clear hRk oz
    go_wp2
    exact bodyPost_ret (by simp [results, Tryd.results23, go_sem, J4.c0 hz, J4.c1 hz, J4.c2 hz, J4.c3 hz]) rfl ⟨HO.out, .inr ⟨71, HI.out, by decide, rfl⟩⟩
  · have hdk : ((d : Int) == 24) = false := by rw [beq_eq_false_iff_ne]; omega
    have HD24 : Hid (d ≠ 24) := Lib.hid h24
    have HV2 := Lib.hid (HVH.out (by omega))
    have hwd : IntKind.i64.wrap ((d : Int) + 1) = (d : Int) + 1 := IntWalk.i64_in _ (by omega)
    have e1 := H5.out.c1
    have ef := H5.out.free 1
    have hwr : IntKind.i64.wrap ((k1 : Int) + 1) = (k1 : Int) + 1 := IntWalk.i64_in _ (by have := HK1.out; have := HS.out; omega)
    have H6 : Hid (TS X s (k1 + 1) (w5.setCell ⟨X, 1, none⟩ (.int .i64 ((k1 : Int) + 1)))) := Lib.hid (H5.out.set (k1 + 1))
    have HO6 := Lib.hid (HO5.out.trans (off_set7 w5 X 1 (.int .i64 ((k1 : Int) + 1))) (fun _ h => .inl h))
    clear h24 HVH
    go_upto_region 23 with fail
    obtain ⟨w6, hw6⟩ : ∃ V', w5.setCell ⟨X, 1, none⟩ (.int .i64 ((k1 : Int) + 1)) = V' := ⟨_, rfl⟩
    rw [hw6] at H6 HO6 ⊢
    clear hw6 hwr e1 ef H5 HO5
    have hM6 : JZ w6.heap.size (w6.alloc (.cells #[.int .i64 0, .string ⟨#[]⟩, .slice none 0 0, .slice none 0 0] 28)) := Blk.new _ w6
    have hs6 := HO6.out.size
    go_upto_region 24 with (guard_target =~ Go.wpList _ _ _ ({ dst := none, op := Go.Op.store 28 _ _, type := _, pos := _, after := _, guard := none } :: _) _ _; refine st4 rfl rfl ⟨rfl, rfl, rfl, rfl⟩ hM6 ?_)
    intro w7 hM7 o7
    have oA : Off (fun b => b = w6.heap.size) w6 w7 := ((Off.of_below ((Below.refl _ _).alloc (Nat.le_refl _) _)).mono (fun _ h => h.elim)).trans o7 (fun _ h => .inl h)
    have H7 := Lib.hid (H6.out.off oA (fun e => by have := H6.out.lt; omega))
    have HO7 := Lib.hid (HO6.out.trans oA (fun b h => .inr (by omega)))
    obtain ⟨V, hV⟩ : ∃ V, w6.heap.size = V := ⟨_, rfl⟩
    have HVL : Hid (wA.heap.size ≤ V ∧ X < V) := Lib.hid ⟨by omega, by have := H6.out.lt; omega⟩
    rw [hV] at hM7 ⊢
    clear hM6 hs6 oA o7 hV H6 HO6
    have HM8 := Lib.hid hM7
    have H8 := Lib.hid H7.out
    have HO8 := Lib.hid HO7.out
    clear hM7 H7 HO7
    go_upto_region 28 with fail
    obtain ⟨w8, hw8⟩ : ∃ W, w7 = W := ⟨_, rfl⟩
    subst hw8
    have HBL2 := Lib.hid (tblanks_any H8.out HK1L.out (by have := HS.out; omega))
    go_wp2_with fail
    refine HBL2.out.mono ?_
    clear HBL2
    rintro e w9 ⟨rfl, k2, hk12, hk2, hd2, h9, o9⟩
    have HM9 := Lib.hid (HM8.out.off o9 (fun e => by have := HVL.out; omega))
    have HO9 := Lib.hid (HO8.out.trans o9 (fun _ h => .inl h))
    have HNX := Lib.hid (tnext_any h9 hk2)
    obtain ⟨z2, hz2⟩ : ∃ z, nextZ s k2 = z := ⟨_, rfl⟩
    rw [hz2] at HNX
    have HZ2 : Hid ((z2 == 93) = decide ((s.drop k2).head? = some (endC false))) := Lib.hid (by rw [← hz2]; exact next_is (d := endC false) (by decide))
    have H9 := Lib.hid h9
    have HK2 : Hid (k1 + 1 ≤ k2 ∧ k2 ≤ s.length) := Lib.hid ⟨hk12, hk2⟩
    have HD2 := Lib.hid hd2
    have HIN : Hid (valX d (s.drop k) = if (s.drop k2).head? = some (endC false) then .ok (.mk (kindC false) [] [] [], (s.drop k2).drop 1) else loopX d false [] [] (s.drop k2)) := Lib.hid (by rw [HVO.out, ins_head HD24.out, hd2])
    clear h9 o9 hk12 hk2 hd2 hz2 H8 HO8 HM8 HVO
    go_wp2_with fail
    refine HNX.out.mono ?_
    clear HNX
    rintro e w10 ⟨rfl, b10⟩
    have H10 := Lib.hid (H9.out.below b10)
    have HM10 := Lib.hid (HM9.out.below b10)
    have HO10 := Lib.hid (HO9.out.trans (Off.of_below b10) (fun _ h => h.elim))
    have HR10 := Lib.hid (HR.out.off HO10.out (fun e => by have := HXL.out; omega))
    clear b10 H9 HM9 HO9 HR
    by_cases he : (s.drop k2).head? = some (endC false)
    · have hze : (z2 == 93) = true := by rw [HZ2.out]; exact decide_eq_true he
      have e1 := H10.out.c1
      have ef := H10.out.free 1
      have hwr : IntKind.i64.wrap ((k2 : Int) + 1) = (k2 : Int) + 1 := IntWalk.i64_in _ (by have := HK2.out; have := HS.out; omega)
      have H11 : Hid (TS X s (k2 + 1) (w10.setCell ⟨X, 1, none⟩ (.int .i64 ((k2 : Int) + 1)))) := Lib.hid (H10.out.set (k2 + 1))
      have HO11 := Lib.hid (HO10.out.trans (off_set7 w10 X 1 (.int .i64 ((k2 : Int) + 1))) (fun _ h => .inl h))
      have hM11 := HM10.out.off (off_set7 w10 X 1 (.int .i64 ((k2 : Int) + 1))) (fun e => by have := HVL.out; omega)
      have hR11 := HR10.out.off (off_set7 w10 X 1 (.int .i64 ((k2 : Int) + 1))) (fun e => by have := HXL.out; omega)
      have HVE : Hid (valX d (s.drop k) = .ok (.mk (kindC false) [] [] [], s.drop (k2 + 1)) ∧ k2 + 1 ≤ s.length) := Lib.hid ⟨by rw [HIN.out, if_pos he, List.drop_drop], (drop_succ7 (head_some he)).2⟩
      clear he HZ2 HIN
      go_upto_region 31 with fail
      generalize w10.setCell ⟨X, 1, none⟩ (.int .i64 ((k2 : Int) + 1)) = w11 at *
      clear e1 ef hwr hze
      go_wp2_with (first
        | (guard_target =~ Go.wpList _ _ _ ({ dst := _, op := Go.Op.load 28 _, type := _, pos := _, after := _, guard := none } :: _) _ _; refine ld4 rfl hM11 ?_)
        | (guard_target =~ Go.wpList _ _ _ ({ dst := none, op := Go.Op.store 28 _ _, type := _, pos := _, after := _, guard := none } :: _) _ _; refine st4 rfl rfl ⟨rfl, rfl, rfl, rfl⟩ hR11 ?_))
      intro wz hz oz
      have HO := Lib.hid (off_res HXL.out (by rw [HWA.out]; exact HO11.out) oz)
      have HTZ := Lib.hid (H11.out.off oz (fun e => by have := HXL.out; omega))
      clear hR11 hM11 oz
      go_wp2
      exact bodyPost_ret (by simp [results, Tryd.results23, go_sem, J4.c0 hz, J4.c1 hz, J4.c2 hz, J4.c3 hz]) rfl ⟨HO.out, .inl ⟨.mk 5 [] [] [], _, k2 + 1, HVE.out.1, HVE.out.2, rfl, jr_nil _ _ 5, HTZ.out⟩⟩
    · have hze : (z2 == 93) = false := by rw [HZ2.out]; exact decide_eq_false he
      have HSt : Hid (DSt X V w.heap.size d k false s wA w10) := Lib.hid ⟨k2, [], [], _, _, _, _, H10.out, MV.new 5 HM10.out, HR10.out, HO10.out, by have := HK2.out; have := HKK.out; omega, HK2.out.2, by simp, by simp, by rw [HIN.out, if_neg he]⟩
      clear he HZ2 HIN H10 HM10 HO10 HR10
      go_wp2_with fail
      go_loopw [] (fun wr => Hid (DSt X V w.heap.size d k false s wA wr)) (fun wr => s.length + 1 - atOf X wr)
      case atStart => exact HSt
      case round =>
        clear HSt
        obtain ⟨k3, ns, vs, nv, lv, cs, T, hT, hM, hR, hO, hk3, hks, hnl, hvl, hP⟩ := hrel.out
        have HAT := Lib.hid hT.at
        have HT3 := Lib.hid hT
        have HM3 := Lib.hid hM
        have HR3 := Lib.hid hR
        have HO3 := Lib.hid hO
        have HK3 : Hid (k + 1 ≤ k3 ∧ k3 ≤ s.length ∧ ns.length ≤ k3 ∧ vs.length ≤ k3) := Lib.hid ⟨hk3, hks, by omega, by omega⟩
        have HP := Lib.hid hP
        have m0 : wr.cell? ⟨V, 0, none⟩ = some (.int .i64 5) := hM.blk.c0
        clear hT hM hR hO hk3 hks hnl hvl hP hrel
        have HCV := Lib.hid (HV2.out k3 wr (by have := HK3.out; omega) (by have := HK3.out; omega) HT3.out)
        go_wp2_with fail
        refine HCV.out.mono ?_
        clear HCV m0
        rintro e w20 ⟨o20, ⟨v, y, k9, hv, hk9, rfl, hj, h20⟩ | ⟨zz, hzz, hzz0, rfl⟩⟩
        · obtain ⟨x0, x1, x2, x3, rfl, hone⟩ := jr_one hj
          have hM20 : JZ w20.heap.size (w20.alloc (.cells #[.int .i64 0, .string ⟨#[]⟩, .slice none 0 0, .slice none 0 0] 28)) := Blk.new _ w20
          have hs20 := o20.size
          go_upto_region 41 with (guard_target =~ Go.wpList _ _ _ ({ dst := none, op := Go.Op.store 28 _ _, type := _, pos := _, after := _, guard := none } :: _) _ _; refine st4 rfl rfl hone hM20 ?_)
          intro w21 hM21 o21
          have oA : Off (fun b => b = w20.heap.size) w20 w21 := ((Off.of_below ((Below.refl _ _).alloc (Nat.le_refl _) _)).mono (fun _ h => h.elim)).trans o21 (fun _ h => .inl h)
          have hVw : V < wr.heap.size := HM3.out.blk.lt
          have M20 := HM3.out.off o20 (fun b hb => .inl (by rw [hb]; have := HVL.out; omega))
          have M21 := M20.off oA (fun b hb => .inr (by omega))
          have HM21 := Lib.hid M21
          have hsA := oA.size
          have HT21 := Lib.hid (h20.off oA (fun e => by have := h20.lt; omega))
          have HR21 := Lib.hid ((HR3.out.off o20 (fun e => by have := HXL.out; omega)).off oA (fun e => by have := HR3.out.lt; omega))
          have HO21 := Lib.hid ((HO3.out.trans o20 (fun _ h => .inl h)).trans oA (fun b h => .inr (by have := HVL.out; omega)))
          have HJ21 : Hid (JR w21 (fun b => wr.heap.size ≤ b ∧ b < w20.heap.size) v (.agg #[x0, x1, x2, x3])) := Lib.hid (JR.off oA (fun b hb e => by omega) v _ hj)
          have HSZ : Hid (V < wr.heap.size ∧ wr.heap.size ≤ w20.heap.size ∧ w20.heap.size < w21.heap.size) := Lib.hid ⟨hVw, hs20, by have := hM21.lt; omega⟩
          have HNB : Hid ((∀ b, (nv : Value).ownBlock = some b → b < wr.heap.size) ∧ ∀ b, lv.ownBlock = some b → b < wr.heap.size) := Lib.hid ⟨fun b hb => (HM3.out.nb hb).2, fun b hb => (HM3.out.lb hb).2⟩
          have HVX := Lib.hid hv
          have HK9 := Lib.hid hk9
          clear hM20 o21 oA o20 hs20 hsA M20 M21 h20 hj hv hk9 hVw HM3 HR3 HO3 HT3
          go_upto_region 43 with fail
          have c3 := HM21.out.blk.c3
          have HLV := Lib.hid (ownv_form HM21.out.vals)
          obtain ⟨lA, lc, rfl⟩ := HLV.out
          clear HLV
          have hlV := HM21.out.blk.lt
          go_upto_region 44 with (first
            | (guard_target =~ Go.wpList _ _ _ ({ dst := _, op := Go.Op.load 28 _, type := _, pos := _, after := _, guard := none } :: _) _ _; refine ld4 rfl hM21 ?_)
            | (at_builtin; refine appV7 rfl _ _ rfl w21 (V + 1) (.slice lA vs.length lc) vs.length cs x0 x1 x2 x3 hone rfl HM21.out.vals rfl (by have := HK3.out; have := HS.out; omega) (by omega) ?_
               intro lv5 w22 hl5 o5 hat5
               obtain ⟨lA5, lc5, rfl⟩ := ownv_form hl5
               have b5 := HM21.out.blk.off o5 (fun h => by have := HM21.out.lb h; omega)
               have z3 := b5.c3
               have zf := b5.free 3
               have o6 := off_set7 w22 V 3 (.slice lA5 (vs.length + 1) lc5)
               have hl6 : OwV _ (V + 1) (.slice lA5 (vs.length + 1) lc5) (vs.length + 1) (cs ++ [x0, x1, x2, x3]) := own_off hl5 o6 (fun b hb h => by have := World.ownsRow.lt hl5 b hb; omega)
               have oP : Off (fun b => b = V ∨ (Value.slice lA vs.length lc).ownBlock = some b) w21 _ := (o5.mono (fun b h => .inr h)).trans o6 (fun b h => .inl (.inl h))
               have HMP := Lib.hid (HM21.out.push HJ21.out (fun b hb => ⟨by have := HSZ.out; omega, by have := HSZ.out; omega, fun h => by have := HNB.out.1 b h; omega, fun h => by have := HNB.out.2 b h; omega⟩) (b5.set 3 _) hl6 oP hat5)
               have HOP := Lib.hid oP
               clear hl5 o5 hat5 b5 o6 hl6 oP c3))
          have HT23 := Lib.hid (HT21.out.off HOP.out (fun h => by
            rcases h with h | h
            · have := HVL.out; omega
            · have := HM21.out.lb h; have := HVL.out; omega))
          have HR23 := Lib.hid (HR21.out.off HOP.out (fun h => by
            rcases h with h | h
            · have := HVL.out; have := HSA.out; omega
            · have := HM21.out.lb h; have := HVL.out; have := HSA.out; omega))
          have HO23 := Lib.hid (HO21.out.trans HOP.out (fun b h => .inr (by
            rcases h with h | h
            · have := HVL.out; omega
            · have := HM21.out.lb h; have := HVL.out; omega)))
          clear HOP HM21 HT21 HR21 HO21 HJ21 hM21 z3 zf hlV hone HNB
          generalize w22.setCell ⟨V, 3, none⟩ (.slice lA5 (vs.length + 1) lc5) = w23 at *
          obtain ⟨lv6, hlv6⟩ : ∃ x, Value.slice lA5 (vs.length + 1) lc5 = x := ⟨_, rfl⟩
          obtain ⟨cs6, hcs6⟩ : ∃ x, cs ++ [x0, x1, x2, x3] = x := ⟨_, rfl⟩
          rw [hlv6, hcs6] at HMP
          have hBH := behind2 (vs := vs) (obj := false) (names_false ns (s.drop k3)) HVX.out
          have HBH := Lib.hid hBH
          have HK9K : Hid (k9 > k3) := Lib.hid (by
            have := valX_len HVX.out
            rw [List.length_drop, List.length_drop] at this
            omega)
          have HB9 := Lib.hid (tblanks_any HT23.out HK9.out (by have := HS.out; omega))
          clear hlv6 hcs6 hBH HVX HT23
          go_wp2_with fail
          refine HB9.out.mono ?_
          clear HB9
          rintro e w24 ⟨rfl, k10, hk910, hk10, hd10, h24, o24⟩
          have HMP2 := Lib.hid (HMP.out.off o24 (fun b hb => .inl (by rw [hb]; have := HVL.out; omega)))
          have HR24 := Lib.hid (HR23.out.off o24 (fun e => by have := HXL.out; omega))
          have HO24 := Lib.hid (HO23.out.trans o24 (fun _ h => .inl h))
          have HNX := Lib.hid (tnext_any h24 hk10)
          obtain ⟨z9, hz9⟩ : ∃ z, nextZ s k10 = z := ⟨_, rfl⟩
          rw [hz9] at HNX
          have HZE : Hid ((z9 == 93) = decide ((s.drop k10).head? = some (endC false))) := Lib.hid (by rw [← hz9]; exact next_is (d := endC false) (by decide))
          have HZC : Hid ((z9 == 44) = decide ((s.drop k10).head? = some 44)) := Lib.hid (by rw [← hz9]; exact next_is (d := 44) (by decide))
          have HT24 := Lib.hid h24
          have HK10 : Hid (k9 ≤ k10 ∧ k10 ≤ s.length) := Lib.hid ⟨hk910, hk10⟩
          rw [← hd10] at HBH
          clear h24 o24 hz9 hk910 hk10 hd10 HMP HR23 HO23
          go_wp2_with fail
          refine HNX.out.mono ?_
          clear HNX
          rintro e w25 ⟨rfl, b25⟩
          have e1 := (HT24.out.below b25).c1
          have ef := (HT24.out.below b25).free 1
          have hwr : IntKind.i64.wrap ((k10 : Int) + 1) = (k10 : Int) + 1 := IntWalk.i64_in _ (by have := HK10.out; have := HS.out; omega)
          have HT26 : Hid (TS X s (k10 + 1) (w25.setCell ⟨X, 1, none⟩ (.int .i64 ((k10 : Int) + 1)))) := Lib.hid ((HT24.out.below b25).set (k10 + 1))
          have oS := off_set7 w25 X 1 (.int .i64 ((k10 : Int) + 1))
          have HM26 := Lib.hid ((HMP2.out.below b25).off oS (fun b hb => .inl (by rw [hb]; have := HVL.out; omega)))
          have HR26 := Lib.hid ((HR24.out.below b25).off oS (fun e => by have := HXL.out; omega))
          have HO26 := Lib.hid ((HO24.out.trans (Off.of_below b25) (fun _ h => h.elim)).trans oS (fun _ h => .inl h))
          clear b25 oS HT24 HMP2 HR24 HO24
          go_upto_region 47 with fail
          generalize w25.setCell ⟨X, 1, none⟩ (.int .i64 ((k10 : Int) + 1)) = w26 at *
          clear e1 ef hwr
          by_cases hE : (s.drop k10).head? = some (endC false)
          · have hze : (z9 == 93) = true := by rw [HZE.out]; exact decide_eq_true hE
            have HVE : Hid (valX d (s.drop k) = .ok (.mk (kindC false) [] (ns) (vs ++ [v]), s.drop (k10 + 1)) ∧ k10 + 1 ≤ s.length) := Lib.hid ⟨by rw [HP.out]; exact HBH.out.1 _ (by rw [(drop_succ7 (head_some hE)).1]; exact head_some hE), (drop_succ7 (head_some hE)).2⟩
            have hMb : J4 V (.int .i64 5) (.string ⟨#[]⟩) nv lv6 w26 := HM26.out.blk
            have hone : One4 (.int .i64 5) (.string ⟨#[]⟩) nv lv6 := HM26.out.one
            have hRk := HR26.out
            clear hE HZE HZC HBH HP
            go_wp2_with (first
              | (guard_target =~ Go.wpList _ _ _ ({ dst := _, op := Go.Op.load 28 _, type := _, pos := _, after := _, guard := none } :: _) _ _; refine ld4 rfl hMb ?_)
              | (guard_target =~ Go.wpList _ _ _ ({ dst := none, op := Go.Op.store 28 _ _, type := _, pos := _, after := _, guard := none } :: _) _ _; refine st4 rfl rfl hone hRk ?_))
            intro wz hz oz
            have HO := Lib.hid (off_res HXL.out (by rw [HWA.out]; exact HO26.out) oz)
            have HTZ := Lib.hid (HT26.out.off oz (fun e => by have := HXL.out; omega))
            have HJZ : Hid (JR wz (fun b => w.heap.size ≤ b ∧ b < wz.heap.size) (.mk (kindC false) [] (ns) (vs ++ [v])) (.agg #[.int .i64 5, .string ⟨#[]⟩, nv, lv6])) := Lib.hid (by
              have hv := HM26.out.value (T' := fun b => V < b ∧ b < w26.heap.size) (fun b h1 h2 => ⟨h1, h2⟩)
              exact JR.mono (fun b hb => ⟨by have := HVL.out; have := HSA.out; omega, by have := oz.size; omega⟩) _ _ (JR.off oz (fun b hb e => by have := HVL.out; have := HSA.out; omega) _ _ hv))
            clear hRk oz hMb hone
            go_wp2
            exact bodyPost_ret (v := .tuple #[.agg #[.int .i64 5, .string ⟨#[]⟩, nv, lv6], .int .i64 0]) (by simp [results, Tryd.results23, go_sem, J4.c0 hz, J4.c1 hz, J4.c2 hz, J4.c3 hz]) rfl ⟨HO.out, .inl ⟨_, _, k10 + 1, HVE.out.1, HVE.out.2, rfl, HJZ.out, HTZ.out⟩⟩
          · have hze : (z9 == 93) = false := by rw [HZE.out]; exact decide_eq_false hE
            by_cases hC : (s.drop k10).head? = some 44
            · have hzc : (z9 == 44) = true := by rw [HZC.out]; exact decide_eq_true hC
              have hzcc : (z9 != 44) = false := by rw [bne, hzc]; rfl
              have HNE : Hid (valX d (s.drop k) = loopX d false (ns) (vs ++ [v]) (s.drop (k10 + 1)) ∧ k10 + 1 ≤ s.length) := Lib.hid ⟨by rw [HP.out]; exact HBH.out.2.1 _ (by rw [(drop_succ7 (head_some hC)).1]; exact head_some hC), (drop_succ7 (head_some hC)).2⟩
              have HAT2 := Lib.hid HT26.out.at
              have HSt : Hid (DSt X V w.heap.size d k false s wA w26) := Lib.hid ⟨k10 + 1, _, _, _, _, _, _, HT26.out, HM26.out, HR26.out, HO26.out, by have := HK3.out; have := HK9K.out; have := HK10.out; omega, HNE.out.2, by have := HK3.out; have := HK9K.out; have := HK10.out; omega, by have := HK3.out; have := HK9K.out; have := HK10.out; rw [List.length_append]; simp only [List.length_cons, List.length_nil]; omega, HNE.out.1⟩
              clear hE hC HZE HZC HBH HP HT26 HM26 HR26 HO26
              go_wp2
              exact ⟨HSt, by rw [HAT2.out, HAT.out]; have := HK3.out; have := HK9K.out; have := HK10.out; omega⟩
            · have hzc : (z9 == 44) = false := by rw [HZC.out]; exact decide_eq_false hC
              have hzcc : (z9 != 44) = true := by rw [bne, hzc]; rfl
              have HE : Hid (valX d (s.drop k) = .error 70) := Lib.hid (by rw [HP.out]; exact HBH.out.2.2 hE hC)
              clear hE hC HZE HZC HBH HP HM26 HT26
              have hRk := HR26.out
              have HOk : Hid (Off (fun b => b = X) (w.alloc (.cells #[.int .i64 0, .string ⟨#[]⟩, .slice none 0 0, .slice none 0 0] 28)) w26) := Lib.hid (by rw [HWA.out]; exact HO26.out)
              go_wp2_with (guard_target =~ Go.wpList _ _ _ ({ dst := none, op := Go.Op.store 28 _ _, type := _, pos := _, after := _, guard := none } :: _) _ _; refine st4 rfl rfl ⟨rfl, rfl, rfl, rfl⟩ hRk ?_)
              intro wz hz oz
              have HO := Lib.hid (off_res HXL.out HOk.out oz)
              clear hRk oz
              go_wp2
              exact bodyPost_ret (by simp [results, Tryd.results23, go_sem, J4.c0 hz, J4.c1 hz, J4.c2 hz, J4.c3 hz]) rfl ⟨HO.out, .inr ⟨70, HE.out, by decide, rfl⟩⟩
        · have hM20 : JZ w20.heap.size (w20.alloc (.cells #[.int .i64 0, .string ⟨#[]⟩, .slice none 0 0, .slice none 0 0] 28)) := Blk.new _ w20
          have hzb : (zz == 0) = false := by rw [beq_eq_false_iff_ne]; exact hzz0
          have hs20 := o20.size
          have HE : Hid (valX d (s.drop k) = .error zz) := Lib.hid (by rw [HP.out]; exact loopX_bad (names_false ns (s.drop k3)) hzz)
          have hVw : V < wr.heap.size := HM3.out.blk.lt
          have HR20 := Lib.hid (HR3.out.off o20 (fun e => by have := HXL.out; omega))
          have HO20 := Lib.hid (HO3.out.trans o20 (fun _ h => .inl h))
          go_upto_region 41 with (guard_target =~ Go.wpList _ _ _ ({ dst := none, op := Go.Op.store 28 _ _, type := _, pos := _, after := _, guard := none } :: _) _ _; refine st4 rfl rfl ⟨rfl, rfl, rfl, rfl⟩ hM20 ?_)
          intro w21 hM21 o21
          have oA : Off (fun b => b = w20.heap.size) w20 w21 := ((Off.of_below ((Below.refl _ _).alloc (Nat.le_refl _) _)).mono (fun _ h => h.elim)).trans o21 (fun _ h => .inl h)
          have HR21 := Lib.hid (HR20.out.off oA (fun e => by have := HR20.out.lt; omega))
          have HO21 := Lib.hid (HO20.out.trans oA (fun b h => .inr (by have := HVL.out; omega)))
          clear hM20 hM21 o21 oA o20 hzz HP hVw HR20 HO20 HM3 HR3 HO3 HT3 hs20
          have hRk := HR21.out
          have HOk : Hid (Off (fun b => b = X) (w.alloc (.cells #[.int .i64 0, .string ⟨#[]⟩, .slice none 0 0, .slice none 0 0] 28)) w21) := Lib.hid (by rw [HWA.out]; exact HO21.out)
          go_wp2_with (guard_target =~ Go.wpList _ _ _ ({ dst := none, op := Go.Op.store 28 _ _, type := _, pos := _, after := _, guard := none } :: _) _ _; refine st4 rfl rfl ⟨rfl, rfl, rfl, rfl⟩ hRk ?_)
          intro wz hz oz
          have HO := Lib.hid (off_res HXL.out HOk.out oz)
          clear hRk oz
          go_wp2
          exact bodyPost_ret (by simp [results, Tryd.results23, go_sem, J4.c0 hz, J4.c1 hz, J4.c2 hz, J4.c3 hz]) rfl ⟨HO.out, .inr ⟨zz, HE.out, hzz0, rfl⟩⟩
set_option maxRecDepth 100000 in
set_option maxHeartbeats 4000000 in
theorem dval_obj {X d k : Nat} {s t : Bt} {w : World} (h : TS X s k w) (hk : k ≤ s.length) (ht : blanksL (s.drop k) = t) (hs : s.length ≤ 100000) (hh : t.head? = some 123) (hd9 : d ≤ 24) (HV : d < 24 → DHave X d k s) :
    Calls Tryd.prog 23 (DArgs X d) w (DOut X d s k w) := by
  have hR : JZ w.heap.size (w.alloc (.cells #[.int .i64 0, .string ⟨#[]⟩, .slice none 0 0, .slice none 0 0] 28)) := Blk.new _ w
  have HXL := Lib.hid h.lt
  have h0 : TS X s k (w.alloc (.cells #[.int .i64 0, .string ⟨#[]⟩, .slice none 0 0, .slice none 0 0] 28)) := h.below ((Below.refl _ _).alloc (Nat.le_refl _) _)
  have HBL := Lib.hid (tblanks_any h0 hk (by omega))
  have HR := Lib.hid hR
  have HT := Lib.hid ht
  have HS := Lib.hid hs
  have HH := Lib.hid hh
  have HKK0 := Lib.hid hk
  have HVH := Lib.hid HV
  have nn : List.isPrefixOf [110, 117, 108, 108] t = false := brk_word (obj := true) hh (by decide) _
  have nf : List.isPrefixOf [102, 97, 108, 115, 101] t = false := brk_word (obj := true) hh (by decide) _
  have nt : List.isPrefixOf [116, 114, 117, 101] t = false := brk_word (obj := true) hh (by decide) _
  have HNn := Lib.hid nn
  have HNf := Lib.hid nf
  have HNt := Lib.hid nt
  clear nn nf nt hh HV
  clear h h0 hR ht hk hs
  go_enter Tryd.func23, Tryd.ntmps23
  go_wp2_with fail
  refine HBL.out.mono ?_
  clear HBL
  rintro e w1 ⟨rfl, k1, hkk, hk1, hd1, h1, o1⟩
  have HKK : Hid (k ≤ k1) := Lib.hid hkk
  clear hkk
  rw [HT.out] at hd1
  have HNX := Lib.hid (tnext_any h1 hk1)
  obtain ⟨z, hz⟩ : ∃ z, nextZ s k1 = z := ⟨_, rfl⟩
  rw [hz] at HNX
  have HZ : Hid (∀ d : UInt8, d ≠ 0 → (z == (d.toNat : Int)) = decide (t.head? = some d)) := Lib.hid (fun d hd => by rw [← hz, next_is hd, hd1])
  have HO1 := Lib.hid o1
  have H1 := Lib.hid h1
  have HK1 := Lib.hid hk1
  have HD1 := Lib.hid hd1
  clear hz hk1 hd1 h1 o1
  go_wp2_with fail
  refine HNX.out.mono ?_
  clear HNX
  rintro e w2 ⟨rfl, b2⟩
  have HO2 := Lib.hid (HO1.out.trans (Off.of_below b2) (fun _ h => h.elim))
  have H2 := Lib.hid (H1.out.below b2)
  clear b2 HO1 H1
  have Kn := Lib.hid (askst (X := X) HK1.out HS.out [110, 117, 108, 108] (by decide) false (by rw [HD1.out]; exact HNn.out))
  go_wp2_with fail
  refine (Kn.out _ H2.out).mono ?_
  rintro e w3 ⟨rfl, h3, o3⟩
  have HO3 := Lib.hid (HO2.out.trans o3 (fun _ h => .inl h))
  have H3 : Hid (TS X s k1 w3) := Lib.hid h3
  clear h3 o3 Kn H2 HO2
  have Kf := Lib.hid (askst (X := X) HK1.out HS.out [102, 97, 108, 115, 101] (by decide) false (by rw [HD1.out]; exact HNf.out))
  go_wp2_with fail
  refine (Kf.out _ H3.out).mono ?_
  rintro e w4 ⟨rfl, h4, o4⟩
  have HO4 := Lib.hid (HO3.out.trans o4 (fun _ h => .inl h))
  have H4 : Hid (TS X s k1 w4) := Lib.hid h4
  clear h4 o4 Kf H3 HO3
  have Kt := Lib.hid (askst (X := X) HK1.out HS.out [116, 114, 117, 101] (by decide) false (by rw [HD1.out]; exact HNt.out))
  go_wp2_with fail
  refine (Kt.out _ H4.out).mono ?_
  rintro e w5 ⟨rfl, h5, o5⟩
  have HO5 := Lib.hid (HO4.out.trans o5 (fun _ h => .inl h))
  have H5 : Hid (TS X s k1 w5) := Lib.hid h5
  clear h5 o5 Kt H4 HO4
  have hz : z = 123 := by
    have := HZ.out 123 (by decide)
    rw [HH.out, decide_eq_true rfl, beq_iff_eq] at this
    exact this
  subst hz
  clear HZ
  obtain ⟨wA, hwA⟩ : ∃ W, w.alloc (.cells #[.int .i64 0, .string ⟨#[]⟩, .slice none 0 0, .slice none 0 0] 28) = W := ⟨_, rfl⟩
  have hsA : wA.heap.size = w.heap.size + 1 := by rw [← hwA]; simp
  rw [hwA] at HR HO5
  have HSA := Lib.hid hsA
  have HWA := Lib.hid hwA
  have HVO : Hid (valX d (s.drop k) = insF d true (s.drop (k1 + 1))) := Lib.hid (by
    rw [valX_open (obj := true) (by rw [HT.out]; exact head_some HH.out), ← List.drop_drop, HD1.out])
  have HK1L : Hid (k1 + 1 ≤ s.length) := Lib.hid (by
    have := (drop_succ7 (HD1.out.trans (head_some HH.out))).2
    exact this)
  clear hsA hwA
  by_cases h24 : d = 24
  · have HI : Hid (valX d (s.drop k) = .error 71) := Lib.hid (by rw [HVO.out]; unfold insF; rw [if_pos h24])
    have hdk : ((d : Int) == 24) = true := by rw [beq_iff_eq]; omega
    have hoff : Off (fun b => b = X) (w.alloc (.cells #[.int .i64 0, .string ⟨#[]⟩, .slice none 0 0, .slice none 0 0] 28)) w5 := by rw [HWA.out]; exact HO5.out
    have hRr : JZ w.heap.size w5 := HR.out.off HO5.out (fun e => by have := HXL.out; omega)
    clear h24
    have hRk := hRr
    have HOk := Lib.hid (hoff)
    go_wp2_with (guard_target =~ Go.wpList _ _ _ ({ dst := none, op := Go.Op.store 28 _ _, type := _, pos := _, after := _, guard := none } :: _) _ _; refine st4 rfl rfl ⟨rfl, rfl, rfl, rfl⟩ hRk ?_)
    intro wz hz oz
    have HO := Lib.hid (off_res HXL.out HOk.out oz)
    clear hRk oz
    go_wp2
    exact bodyPost_ret (by simp [results, Tryd.results23, go_sem, J4.c0 hz, J4.c1 hz, J4.c2 hz, J4.c3 hz]) rfl ⟨HO.out, .inr ⟨71, HI.out, by decide, rfl⟩⟩
  · have hdk : ((d : Int) == 24) = false := by rw [beq_eq_false_iff_ne]; omega
    have HD24 : Hid (d ≠ 24) := Lib.hid h24
    have HV2 := Lib.hid (HVH.out (by omega))
    have hwd : IntKind.i64.wrap ((d : Int) + 1) = (d : Int) + 1 := IntWalk.i64_in _ (by omega)
    have e1 := H5.out.c1
    have ef := H5.out.free 1
    have hwr : IntKind.i64.wrap ((k1 : Int) + 1) = (k1 : Int) + 1 := IntWalk.i64_in _ (by have := HK1.out; have := HS.out; omega)
    have H6 : Hid (TS X s (k1 + 1) (w5.setCell ⟨X, 1, none⟩ (.int .i64 ((k1 : Int) + 1)))) := Lib.hid (H5.out.set (k1 + 1))
    have HO6 := Lib.hid (HO5.out.trans (off_set7 w5 X 1 (.int .i64 ((k1 : Int) + 1))) (fun _ h => .inl h))
    clear h24 HVH
    go_upto_region 23 with fail
    obtain ⟨w6, hw6⟩ : ∃ V', w5.setCell ⟨X, 1, none⟩ (.int .i64 ((k1 : Int) + 1)) = V' := ⟨_, rfl⟩
    rw [hw6] at H6 HO6 ⊢
    clear hw6 hwr e1 ef H5 HO5
    have hM6 : JZ w6.heap.size (w6.alloc (.cells #[.int .i64 0, .string ⟨#[]⟩, .slice none 0 0, .slice none 0 0] 28)) := Blk.new _ w6
    have hs6 := HO6.out.size
    go_upto_region 24 with (guard_target =~ Go.wpList _ _ _ ({ dst := none, op := Go.Op.store 28 _ _, type := _, pos := _, after := _, guard := none } :: _) _ _; refine st4 rfl rfl ⟨rfl, rfl, rfl, rfl⟩ hM6 ?_)
    intro w7 hM7 o7
    have oA : Off (fun b => b = w6.heap.size) w6 w7 := ((Off.of_below ((Below.refl _ _).alloc (Nat.le_refl _) _)).mono (fun _ h => h.elim)).trans o7 (fun _ h => .inl h)
    have H7 := Lib.hid (H6.out.off oA (fun e => by have := H6.out.lt; omega))
    have HO7 := Lib.hid (HO6.out.trans oA (fun b h => .inr (by omega)))
    obtain ⟨V, hV⟩ : ∃ V, w6.heap.size = V := ⟨_, rfl⟩
    have HVL : Hid (wA.heap.size ≤ V ∧ X < V) := Lib.hid ⟨by omega, by have := H6.out.lt; omega⟩
    rw [hV] at hM7 ⊢
    clear hM6 hs6 oA o7 hV H6 HO6
    have c0 := hM7.c0
    have cf := hM7.free 0
    have hM8 : J4 V (.int .i64 6) (.string ⟨#[]⟩) (.slice none 0 0) (.slice none 0 0) (w7.setCell ⟨V, 0, none⟩ (.int .i64 6)) := hM7.set 0 (.int .i64 6)
    have HM8 := Lib.hid hM8
    have H8 := Lib.hid (H7.out.off (off_set7 w7 V 0 (.int .i64 6)) (fun e => by have := HVL.out; omega))
    have HO8 := Lib.hid (HO7.out.trans (off_set7 w7 V 0 (.int .i64 6)) (fun b h => .inr (by have := HVL.out; omega)))
    clear hM7 hM8 H7 HO7
    go_upto_region 28 with fail
    generalize w7.setCell ⟨V, 0, none⟩ (.int .i64 6) = w8 at *
    clear c0 cf
    have HBL2 := Lib.hid (tblanks_any H8.out HK1L.out (by have := HS.out; omega))
    go_wp2_with fail
    refine HBL2.out.mono ?_
    clear HBL2
    rintro e w9 ⟨rfl, k2, hk12, hk2, hd2, h9, o9⟩
    have HM9 := Lib.hid (HM8.out.off o9 (fun e => by have := HVL.out; omega))
    have HO9 := Lib.hid (HO8.out.trans o9 (fun _ h => .inl h))
    have HNX := Lib.hid (tnext_any h9 hk2)
    obtain ⟨z2, hz2⟩ : ∃ z, nextZ s k2 = z := ⟨_, rfl⟩
    rw [hz2] at HNX
    have HZ2 : Hid ((z2 == 125) = decide ((s.drop k2).head? = some (endC true))) := Lib.hid (by rw [← hz2]; exact next_is (d := endC true) (by decide))
    have H9 := Lib.hid h9
    have HK2 : Hid (k1 + 1 ≤ k2 ∧ k2 ≤ s.length) := Lib.hid ⟨hk12, hk2⟩
    have HD2 := Lib.hid hd2
    have HIN : Hid (valX d (s.drop k) = if (s.drop k2).head? = some (endC true) then .ok (.mk (kindC true) [] [] [], (s.drop k2).drop 1) else loopX d true [] [] (s.drop k2)) := Lib.hid (by rw [HVO.out, ins_head HD24.out, hd2])
    clear h9 o9 hk12 hk2 hd2 hz2 H8 HO8 HM8 HVO
    go_wp2_with fail
    refine HNX.out.mono ?_
    clear HNX
    rintro e w10 ⟨rfl, b10⟩
    have H10 := Lib.hid (H9.out.below b10)
    have HM10 := Lib.hid (HM9.out.below b10)
    have HO10 := Lib.hid (HO9.out.trans (Off.of_below b10) (fun _ h => h.elim))
    have HR10 := Lib.hid (HR.out.off HO10.out (fun e => by have := HXL.out; omega))
    clear b10 H9 HM9 HO9 HR
    by_cases he : (s.drop k2).head? = some (endC true)
    · have hze : (z2 == 125) = true := by rw [HZ2.out]; exact decide_eq_true he
      have e1 := H10.out.c1
      have ef := H10.out.free 1
      have hwr : IntKind.i64.wrap ((k2 : Int) + 1) = (k2 : Int) + 1 := IntWalk.i64_in _ (by have := HK2.out; have := HS.out; omega)
      have H11 : Hid (TS X s (k2 + 1) (w10.setCell ⟨X, 1, none⟩ (.int .i64 ((k2 : Int) + 1)))) := Lib.hid (H10.out.set (k2 + 1))
      have HO11 := Lib.hid (HO10.out.trans (off_set7 w10 X 1 (.int .i64 ((k2 : Int) + 1))) (fun _ h => .inl h))
      have hM11 := HM10.out.off (off_set7 w10 X 1 (.int .i64 ((k2 : Int) + 1))) (fun e => by have := HVL.out; omega)
      have hR11 := HR10.out.off (off_set7 w10 X 1 (.int .i64 ((k2 : Int) + 1))) (fun e => by have := HXL.out; omega)
      have HVE : Hid (valX d (s.drop k) = .ok (.mk (kindC true) [] [] [], s.drop (k2 + 1)) ∧ k2 + 1 ≤ s.length) := Lib.hid ⟨by rw [HIN.out, if_pos he, List.drop_drop], (drop_succ7 (head_some he)).2⟩
      clear he HZ2 HIN
      go_upto_region 31 with fail
      generalize w10.setCell ⟨X, 1, none⟩ (.int .i64 ((k2 : Int) + 1)) = w11 at *
      clear e1 ef hwr hze
      go_wp2_with (first
        | (guard_target =~ Go.wpList _ _ _ ({ dst := _, op := Go.Op.load 28 _, type := _, pos := _, after := _, guard := none } :: _) _ _; refine ld4 rfl hM11 ?_)
        | (guard_target =~ Go.wpList _ _ _ ({ dst := none, op := Go.Op.store 28 _ _, type := _, pos := _, after := _, guard := none } :: _) _ _; refine st4 rfl rfl ⟨rfl, rfl, rfl, rfl⟩ hR11 ?_))
      intro wz hz oz
      have HO := Lib.hid (off_res HXL.out (by rw [HWA.out]; exact HO11.out) oz)
      have HTZ := Lib.hid (H11.out.off oz (fun e => by have := HXL.out; omega))
      clear hR11 hM11 oz
      go_wp2
      exact bodyPost_ret (by simp [results, Tryd.results23, go_sem, J4.c0 hz, J4.c1 hz, J4.c2 hz, J4.c3 hz]) rfl ⟨HO.out, .inl ⟨.mk 6 [] [] [], _, k2 + 1, HVE.out.1, HVE.out.2, rfl, jr_nil _ _ 6, HTZ.out⟩⟩
    · have hze : (z2 == 125) = false := by rw [HZ2.out]; exact decide_eq_false he
      have HSt : Hid (DSt X V w.heap.size d k true s wA w10) := Lib.hid ⟨k2, [], [], _, _, _, _, H10.out, MV.new 6 HM10.out, HR10.out, HO10.out, by have := HK2.out; have := HKK.out; omega, HK2.out.2, by simp, by simp, by rw [HIN.out, if_neg he]⟩
      clear he HZ2 HIN H10 HM10 HO10 HR10
      go_wp2_with fail
      go_loopw [] (fun wr => Hid (DSt X V w.heap.size d k true s wA wr)) (fun wr => s.length + 1 - atOf X wr)
      case atStart => exact HSt
      case round =>
        clear HSt
        obtain ⟨k3, ns, vs, nv, lv, cs, T, hT, hM, hR, hO, hk3, hks, hnl, hvl, hP⟩ := hrel.out
        have HAT := Lib.hid hT.at
        have HT3 := Lib.hid hT
        have HM3 := Lib.hid hM
        have HR3 := Lib.hid hR
        have HO3 := Lib.hid hO
        have HK3 : Hid (k + 1 ≤ k3 ∧ k3 ≤ s.length ∧ ns.length ≤ k3 ∧ vs.length ≤ k3) := Lib.hid ⟨hk3, hks, by omega, by omega⟩
        have HP := Lib.hid hP
        have m0 : wr.cell? ⟨V, 0, none⟩ = some (.int .i64 6) := hM.blk.c0
        clear hT hM hR hO hk3 hks hnl hvl hP hrel
        have HB3 := Lib.hid (tblanks_any HT3.out HK3.out.2.1 (by have := HS.out; omega))
        go_wp2_with fail
        refine HB3.out.mono ?_
        clear HB3 m0
        rintro e w12 ⟨rfl, k4, hk34, hk4, hd4, h12, o12⟩
        have HTX := Lib.hid (ttext_any unj_has h12 hk4 HS.out)
        rw [hd4] at HTX
        have HM4 := Lib.hid (HM3.out.off o12 (fun b hb => .inl (by rw [hb]; have := HVL.out; omega)))
        have HR4 := Lib.hid (HR3.out.off o12 (fun e => by have := HXL.out; omega))
        have HO4 := Lib.hid (HO3.out.trans o12 (fun _ h => .inl h))
        clear h12 o12 hk34 hk4 hd4 HT3 HM3 HR3 HO3
        go_wp2_with fail
        refine HTX.out.mono ?_
        clear HTX
        rintro e w13 ⟨x, ok, k5, rfl, hk5, h13, o13, hx⟩
        have HM5 := Lib.hid (HM4.out.off o13 (fun b hb => .inl (by rw [hb]; have := HVL.out; omega)))
        have HR5 := Lib.hid (HR4.out.off o13 (fun e => by have := HXL.out; omega))
        have HO5 := Lib.hid (HO4.out.trans o13 (fun _ h => .inl h))
        have HX := Lib.hid hx
        have HB5 := Lib.hid (tblanks_any h13 hk5 (by have := HS.out; omega))
        clear h13 o13 hk5 hx HM4 HR4 HO4
        go_wp2_with fail
        refine HB5.out.mono ?_
        clear HB5
        rintro e w14 ⟨rfl, k6, hk56, hk6, hd6, h14, o14⟩
        have HM6 := Lib.hid (HM5.out.off o14 (fun b hb => .inl (by rw [hb]; have := HVL.out; omega)))
        have HR6 := Lib.hid (HR5.out.off o14 (fun e => by have := HXL.out; omega))
        have HO6 := Lib.hid (HO5.out.trans o14 (fun _ h => .inl h))
        have HT6 := Lib.hid h14
        have HK6 := Lib.hid hk6
        have HD6 := Lib.hid hd6
        clear h14 o14 hk56 hk6 hd6 HM5 HR5 HO5
        cases ok with
        | false =>
          have HE : Hid (valX d (s.drop k) = .error 70) := Lib.hid (by rw [HP.out]; exact loopX_noname (notext_none rfl HX.out))
          have hRk := HR6.out
          clear HX HP HM6
          have hRk := HR6.out
          have HOk : Hid (Off (fun b => b = X) (w.alloc (.cells #[.int .i64 0, .string ⟨#[]⟩, .slice none 0 0, .slice none 0 0] 28)) w14) := Lib.hid (by rw [HWA.out]; exact HO6.out)
          go_wp2_with (guard_target =~ Go.wpList _ _ _ ({ dst := none, op := Go.Op.store 28 _ _, type := _, pos := _, after := _, guard := none } :: _) _ _; refine st4 rfl rfl ⟨rfl, rfl, rfl, rfl⟩ hRk ?_)
          intro wz hz oz
          have HO := Lib.hid (off_res HXL.out HOk.out oz)
          clear hRk oz
          go_wp2
          exact bodyPost_ret (by simp [results, Tryd.results23, go_sem, J4.c0 hz, J4.c1 hz, J4.c2 hz, J4.c3 hz]) rfl ⟨HO.out, .inr ⟨70, HE.out, by decide, rfl⟩⟩
        | true =>
          have HX2 : Hid (textL (blanksL (s.drop k3)) = some (x, s.drop k5)) := Lib.hid HX.out
          have HNX := Lib.hid (tnext_any HT6.out HK6.out)
          obtain ⟨z6, hz6⟩ : ∃ z, nextZ s k6 = z := ⟨_, rfl⟩
          rw [hz6] at HNX
          have HZ6 : Hid ((z6 == 58) = decide ((s.drop k6).head? = some 58)) := Lib.hid (by rw [← hz6]; exact next_is (d := 58) (by decide))
          clear hz6 HX
          go_wp2_with fail
          refine HNX.out.mono ?_
          clear HNX
          rintro e w15 ⟨rfl, b15⟩
          have HT7 := Lib.hid (HT6.out.below b15)
          have HM7 := Lib.hid (HM6.out.below b15)
          have HR7 := Lib.hid (HR6.out.below b15)
          have HO7 := Lib.hid (HO6.out.trans (Off.of_below b15) (fun _ h => h.elim))
          clear b15 HT6 HM6 HR6 HO6
          by_cases h58 : (s.drop k6).head? = some 58
          · have hz58 : (z6 == 58) = true := by rw [HZ6.out]; exact decide_eq_true h58
            have hz58c : (z6 != 58) = false := by rw [bne, hz58]; rfl
            have e1 := HT7.out.c1
            have ef := HT7.out.free 1
            have hwr : IntKind.i64.wrap ((k6 : Int) + 1) = (k6 : Int) + 1 := IntWalk.i64_in _ (by have := HK6.out; have := HS.out; omega)
            have HT8 : Hid (TS X s (k6 + 1) (w15.setCell ⟨X, 1, none⟩ (.int .i64 ((k6 : Int) + 1)))) := Lib.hid (HT7.out.set (k6 + 1))
            have oS := off_set7 w15 X 1 (.int .i64 ((k6 : Int) + 1))
            have HM8 := Lib.hid (HM7.out.off oS (fun b hb => .inl (by rw [hb]; have := HVL.out; omega)))
            have HR8 := Lib.hid (HR7.out.off oS (fun e => by have := HXL.out; omega))
            have HO8 := Lib.hid (HO7.out.trans oS (fun _ h => .inl h))
            have HNM : Hid (namesL true ns (s.drop k3) = some (ns ++ [x], s.drop (k6 + 1))) := Lib.hid (names_yes rfl HX2.out (by rw [← HD6.out, (drop_succ7 (head_some h58)).1]; exact head_some h58))
            have HK8 : Hid (k3 < k6 + 1 ∧ k6 + 1 ≤ s.length) := Lib.hid ⟨by
              have h1 := names_len HNM.out
              have h2 := (drop_succ7 (head_some h58)).2
              have h3 := member_len7 HNM.out
              rw [List.length_drop, List.length_drop] at h3
              omega, (drop_succ7 (head_some h58)).2⟩
            clear h58 oS HZ6 HX2 HD6 HT7 HM7 HR7 HO7
            go_upto_region 39 with fail
            generalize w15.setCell ⟨X, 1, none⟩ (.int .i64 ((k6 : Int) + 1)) = w16 at *
            clear e1 ef hwr hz58 hz58c
            have c2 := HM8.out.blk.c2
            have HNV := Lib.hid (own_form7 HM8.out.names)
            obtain ⟨nA, nc, rfl⟩ := HNV.out
            clear HNV
            have hlV := HM8.out.blk.lt
            go_wp2_with (at_builtin; refine appT7 rfl _ _ rfl w16 (V + 1) (.slice nA ns.length nc) ns x rfl HM8.out.names rfl (by have := HK3.out; have := HS.out; omega) (by omega) ?_
                         intro nv5 w5 hn5 o5 hat5
                         obtain ⟨nA5, nc5, rfl⟩ : ∃ A c, nv5 = .slice A (ns.length + 1) c := by simpa using own_form7 hn5
                         have M5 := HM8.out.name hn5 o5 hat5
                         have HM9 := Lib.hid M5
                         have b5 := HM8.out.blk.off o5 (fun h => by have := HM8.out.nb h; omega)
                         have z2 := b5.c2
                         have zf := b5.free 2
                         have HO5 := Lib.hid o5
                         clear hn5 o5 hat5 M5 b5 c2)
            have o56 : Off (fun b => V ≤ b) w16 (w5.setCell ⟨V, 2, none⟩ (.slice nA5 (ns.length + 1) nc5)) := (HO5.out.mono (fun b hb => by have := HM8.out.nb hb; omega)).trans (off_set7 w5 V 2 _) (fun b hb => .inl (by rw [hb]; exact Nat.le_refl _))
            have HT9 := Lib.hid (HT8.out.off o56 (fun h => by have := HVL.out; omega))
            have HR9 := Lib.hid (HR8.out.off o56 (fun h => by have := HVL.out; have := HSA.out; omega))
            have HO9 := Lib.hid (HO8.out.trans o56 (fun b hb => .inr (by have := HVL.out; omega)))
            clear o56 z2 zf HO5 HM8 HT8 HR8 HO8 hlV
            generalize w5.setCell ⟨V, 2, none⟩ (.slice nA5 (ns.length + 1) nc5) = w17 at *
            have HCV := Lib.hid (HV2.out (k6 + 1) w17 (by have := HK3.out; have := HK8.out; omega) (by have := HK3.out; have := HK8.out; omega) HT9.out)
            go_wp2_with fail
            refine HCV.out.mono ?_
            clear HCV
            rintro e w20 ⟨o20, ⟨v, y, k9, hv, hk9, rfl, hj, h20⟩ | ⟨zz, hzz, hzz0, rfl⟩⟩
            · obtain ⟨x0, x1, x2, x3, rfl, hone⟩ := jr_one hj
              have hM20 : JZ w20.heap.size (w20.alloc (.cells #[.int .i64 0, .string ⟨#[]⟩, .slice none 0 0, .slice none 0 0] 28)) := Blk.new _ w20
              have hs20 := o20.size
              go_upto_region 41 with (guard_target =~ Go.wpList _ _ _ ({ dst := none, op := Go.Op.store 28 _ _, type := _, pos := _, after := _, guard := none } :: _) _ _; refine st4 rfl rfl hone hM20 ?_)
              intro w21 hM21 o21
              have oA : Off (fun b => b = w20.heap.size) w20 w21 := ((Off.of_below ((Below.refl _ _).alloc (Nat.le_refl _) _)).mono (fun _ h => h.elim)).trans o21 (fun _ h => .inl h)
              have hVw : V < w17.heap.size := HM9.out.blk.lt
              have M20 := HM9.out.off o20 (fun b hb => .inl (by rw [hb]; have := HVL.out; omega))
              have M21 := M20.off oA (fun b hb => .inr (by omega))
              have HM21 := Lib.hid M21
              have hsA := oA.size
              have HT21 := Lib.hid (h20.off oA (fun e => by have := h20.lt; omega))
              have HR21 := Lib.hid ((HR9.out.off o20 (fun e => by have := HXL.out; omega)).off oA (fun e => by have := HR9.out.lt; omega))
              have HO21 := Lib.hid ((HO9.out.trans o20 (fun _ h => .inl h)).trans oA (fun b h => .inr (by have := HVL.out; omega)))
              have HJ21 : Hid (JR w21 (fun b => w17.heap.size ≤ b ∧ b < w20.heap.size) v (.agg #[x0, x1, x2, x3])) := Lib.hid (JR.off oA (fun b hb e => by omega) v _ hj)
              have HSZ : Hid (V < w17.heap.size ∧ w17.heap.size ≤ w20.heap.size ∧ w20.heap.size < w21.heap.size) := Lib.hid ⟨hVw, hs20, by have := hM21.lt; omega⟩
              have HNB : Hid ((∀ b, ((.slice nA5 (ns.length + 1) nc5) : Value).ownBlock = some b → b < w17.heap.size) ∧ ∀ b, lv.ownBlock = some b → b < w17.heap.size) := Lib.hid ⟨fun b hb => (HM9.out.nb hb).2, fun b hb => (HM9.out.lb hb).2⟩
              have HVX := Lib.hid hv
              have HK9 := Lib.hid hk9
              clear hM20 o21 oA o20 hs20 hsA M20 M21 h20 hj hv hk9 hVw HM9 HR9 HO9 HT9
              go_upto_region 43 with fail
              have c3 := HM21.out.blk.c3
              have HLV := Lib.hid (ownv_form HM21.out.vals)
              obtain ⟨lA, lc, rfl⟩ := HLV.out
              clear HLV
              have hlV := HM21.out.blk.lt
              go_upto_region 44 with (first
                | (guard_target =~ Go.wpList _ _ _ ({ dst := _, op := Go.Op.load 28 _, type := _, pos := _, after := _, guard := none } :: _) _ _; refine ld4 rfl hM21 ?_)
                | (at_builtin; refine appV7 rfl _ _ rfl w21 (V + 1) (.slice lA vs.length lc) vs.length cs x0 x1 x2 x3 hone rfl HM21.out.vals rfl (by have := HK3.out; have := HS.out; omega) (by omega) ?_
                   intro lv5 w22 hl5 o5 hat5
                   obtain ⟨lA5, lc5, rfl⟩ := ownv_form hl5
                   have b5 := HM21.out.blk.off o5 (fun h => by have := HM21.out.lb h; omega)
                   have z3 := b5.c3
                   have zf := b5.free 3
                   have o6 := off_set7 w22 V 3 (.slice lA5 (vs.length + 1) lc5)
                   have hl6 : OwV _ (V + 1) (.slice lA5 (vs.length + 1) lc5) (vs.length + 1) (cs ++ [x0, x1, x2, x3]) := own_off hl5 o6 (fun b hb h => by have := World.ownsRow.lt hl5 b hb; omega)
                   have oP : Off (fun b => b = V ∨ (Value.slice lA vs.length lc).ownBlock = some b) w21 _ := (o5.mono (fun b h => .inr h)).trans o6 (fun b h => .inl (.inl h))
                   have HMP := Lib.hid (HM21.out.push HJ21.out (fun b hb => ⟨by have := HSZ.out; omega, by have := HSZ.out; omega, fun h => by have := HNB.out.1 b h; omega, fun h => by have := HNB.out.2 b h; omega⟩) (b5.set 3 _) hl6 oP hat5)
                   have HOP := Lib.hid oP
                   clear hl5 o5 hat5 b5 o6 hl6 oP c3))
              have HT23 := Lib.hid (HT21.out.off HOP.out (fun h => by
                rcases h with h | h
                · have := HVL.out; omega
                · have := HM21.out.lb h; have := HVL.out; omega))
              have HR23 := Lib.hid (HR21.out.off HOP.out (fun h => by
                rcases h with h | h
                · have := HVL.out; have := HSA.out; omega
                · have := HM21.out.lb h; have := HVL.out; have := HSA.out; omega))
              have HO23 := Lib.hid (HO21.out.trans HOP.out (fun b h => .inr (by
                rcases h with h | h
                · have := HVL.out; omega
                · have := HM21.out.lb h; have := HVL.out; omega)))
              clear HOP HM21 HT21 HR21 HO21 HJ21 hM21 z3 zf hlV hone HNB
              generalize w22.setCell ⟨V, 3, none⟩ (.slice lA5 (vs.length + 1) lc5) = w23 at *
              obtain ⟨lv6, hlv6⟩ : ∃ x, Value.slice lA5 (vs.length + 1) lc5 = x := ⟨_, rfl⟩
              obtain ⟨cs6, hcs6⟩ : ∃ x, cs ++ [x0, x1, x2, x3] = x := ⟨_, rfl⟩
              rw [hlv6, hcs6] at HMP
              have hBH := behind2 (vs := vs) (obj := true) HNM.out HVX.out
              have HBH := Lib.hid hBH
              have HK9K : Hid (k9 > (k6 + 1)) := Lib.hid (by
                have := valX_len HVX.out
                rw [List.length_drop, List.length_drop] at this
                omega)
              have HB9 := Lib.hid (tblanks_any HT23.out HK9.out (by have := HS.out; omega))
              clear hlv6 hcs6 hBH HVX HT23
              go_wp2_with fail
              refine HB9.out.mono ?_
              clear HB9
              rintro e w24 ⟨rfl, k10, hk910, hk10, hd10, h24, o24⟩
              have HMP2 := Lib.hid (HMP.out.off o24 (fun b hb => .inl (by rw [hb]; have := HVL.out; omega)))
              have HR24 := Lib.hid (HR23.out.off o24 (fun e => by have := HXL.out; omega))
              have HO24 := Lib.hid (HO23.out.trans o24 (fun _ h => .inl h))
              have HNX := Lib.hid (tnext_any h24 hk10)
              obtain ⟨z9, hz9⟩ : ∃ z, nextZ s k10 = z := ⟨_, rfl⟩
              rw [hz9] at HNX
              have HZE : Hid ((z9 == 125) = decide ((s.drop k10).head? = some (endC true))) := Lib.hid (by rw [← hz9]; exact next_is (d := endC true) (by decide))
              have HZC : Hid ((z9 == 44) = decide ((s.drop k10).head? = some 44)) := Lib.hid (by rw [← hz9]; exact next_is (d := 44) (by decide))
              have HT24 := Lib.hid h24
              have HK10 : Hid (k9 ≤ k10 ∧ k10 ≤ s.length) := Lib.hid ⟨hk910, hk10⟩
              rw [← hd10] at HBH
              clear h24 o24 hz9 hk910 hk10 hd10 HMP HR23 HO23
              go_wp2_with fail
              refine HNX.out.mono ?_
              clear HNX
              rintro e w25 ⟨rfl, b25⟩
              have e1 := (HT24.out.below b25).c1
              have ef := (HT24.out.below b25).free 1
              have hwr : IntKind.i64.wrap ((k10 : Int) + 1) = (k10 : Int) + 1 := IntWalk.i64_in _ (by have := HK10.out; have := HS.out; omega)
              have HT26 : Hid (TS X s (k10 + 1) (w25.setCell ⟨X, 1, none⟩ (.int .i64 ((k10 : Int) + 1)))) := Lib.hid ((HT24.out.below b25).set (k10 + 1))
              have oS := off_set7 w25 X 1 (.int .i64 ((k10 : Int) + 1))
              have HM26 := Lib.hid ((HMP2.out.below b25).off oS (fun b hb => .inl (by rw [hb]; have := HVL.out; omega)))
              have HR26 := Lib.hid ((HR24.out.below b25).off oS (fun e => by have := HXL.out; omega))
              have HO26 := Lib.hid ((HO24.out.trans (Off.of_below b25) (fun _ h => h.elim)).trans oS (fun _ h => .inl h))
              clear b25 oS HT24 HMP2 HR24 HO24
              go_upto_region 47 with fail
              generalize w25.setCell ⟨X, 1, none⟩ (.int .i64 ((k10 : Int) + 1)) = w26 at *
              clear e1 ef hwr
              by_cases hE : (s.drop k10).head? = some (endC true)
              · have hze : (z9 == 125) = true := by rw [HZE.out]; exact decide_eq_true hE
                have HVE : Hid (valX d (s.drop k) = .ok (.mk (kindC true) [] (ns ++ [x]) (vs ++ [v]), s.drop (k10 + 1)) ∧ k10 + 1 ≤ s.length) := Lib.hid ⟨by rw [HP.out]; exact HBH.out.1 _ (by rw [(drop_succ7 (head_some hE)).1]; exact head_some hE), (drop_succ7 (head_some hE)).2⟩
                have hMb : J4 V (.int .i64 6) (.string ⟨#[]⟩) (.slice nA5 (ns.length + 1) nc5) lv6 w26 := HM26.out.blk
                have hone : One4 (.int .i64 6) (.string ⟨#[]⟩) (.slice nA5 (ns.length + 1) nc5) lv6 := HM26.out.one
                have hRk := HR26.out
                clear hE HZE HZC HBH HP
                go_wp2_with (first
                  | (guard_target =~ Go.wpList _ _ _ ({ dst := _, op := Go.Op.load 28 _, type := _, pos := _, after := _, guard := none } :: _) _ _; refine ld4 rfl hMb ?_)
                  | (guard_target =~ Go.wpList _ _ _ ({ dst := none, op := Go.Op.store 28 _ _, type := _, pos := _, after := _, guard := none } :: _) _ _; refine st4 rfl rfl hone hRk ?_))
                intro wz hz oz
                have HO := Lib.hid (off_res HXL.out (by rw [HWA.out]; exact HO26.out) oz)
                have HTZ := Lib.hid (HT26.out.off oz (fun e => by have := HXL.out; omega))
                have HJZ : Hid (JR wz (fun b => w.heap.size ≤ b ∧ b < wz.heap.size) (.mk (kindC true) [] (ns ++ [x]) (vs ++ [v])) (.agg #[.int .i64 6, .string ⟨#[]⟩, (.slice nA5 (ns.length + 1) nc5), lv6])) := Lib.hid (by
                  have hv := HM26.out.value (T' := fun b => V < b ∧ b < w26.heap.size) (fun b h1 h2 => ⟨h1, h2⟩)
                  exact JR.mono (fun b hb => ⟨by have := HVL.out; have := HSA.out; omega, by have := oz.size; omega⟩) _ _ (JR.off oz (fun b hb e => by have := HVL.out; have := HSA.out; omega) _ _ hv))
                clear hRk oz hMb hone
                go_wp2
                exact bodyPost_ret (v := .tuple #[.agg #[.int .i64 6, .string ⟨#[]⟩, (.slice nA5 (ns.length + 1) nc5), lv6], .int .i64 0]) (by simp [results, Tryd.results23, go_sem, J4.c0 hz, J4.c1 hz, J4.c2 hz, J4.c3 hz]) rfl ⟨HO.out, .inl ⟨_, _, k10 + 1, HVE.out.1, HVE.out.2, rfl, HJZ.out, HTZ.out⟩⟩
              · have hze : (z9 == 125) = false := by rw [HZE.out]; exact decide_eq_false hE
                by_cases hC : (s.drop k10).head? = some 44
                · have hzc : (z9 == 44) = true := by rw [HZC.out]; exact decide_eq_true hC
                  have hzcc : (z9 != 44) = false := by rw [bne, hzc]; rfl
                  have HNE : Hid (valX d (s.drop k) = loopX d true (ns ++ [x]) (vs ++ [v]) (s.drop (k10 + 1)) ∧ k10 + 1 ≤ s.length) := Lib.hid ⟨by rw [HP.out]; exact HBH.out.2.1 _ (by rw [(drop_succ7 (head_some hC)).1]; exact head_some hC), (drop_succ7 (head_some hC)).2⟩
                  have HAT2 := Lib.hid HT26.out.at
                  have HSt : Hid (DSt X V w.heap.size d k true s wA w26) := Lib.hid ⟨k10 + 1, _, _, _, _, _, _, HT26.out, HM26.out, HR26.out, HO26.out, by have := HK3.out; have := HK9K.out; have := HK10.out; have := HK8.out; omega, HNE.out.2, by have := HK3.out; have := HK9K.out; have := HK10.out; have := HK8.out; rw [List.length_append]; simp only [List.length_cons, List.length_nil]; omega, by have := HK3.out; have := HK9K.out; have := HK10.out; have := HK8.out; rw [List.length_append]; simp only [List.length_cons, List.length_nil]; omega, HNE.out.1⟩
                  clear hE hC HZE HZC HBH HP HT26 HM26 HR26 HO26
                  go_wp2
                  exact ⟨HSt, by rw [HAT2.out, HAT.out]; have := HK3.out; have := HK9K.out; have := HK10.out; have := HK8.out; omega⟩
                · have hzc : (z9 == 44) = false := by rw [HZC.out]; exact decide_eq_false hC
                  have hzcc : (z9 != 44) = true := by rw [bne, hzc]; rfl
                  have HE : Hid (valX d (s.drop k) = .error 70) := Lib.hid (by rw [HP.out]; exact HBH.out.2.2 hE hC)
                  clear hE hC HZE HZC HBH HP HM26 HT26
                  have hRk := HR26.out
                  have HOk : Hid (Off (fun b => b = X) (w.alloc (.cells #[.int .i64 0, .string ⟨#[]⟩, .slice none 0 0, .slice none 0 0] 28)) w26) := Lib.hid (by rw [HWA.out]; exact HO26.out)
                  go_wp2_with (guard_target =~ Go.wpList _ _ _ ({ dst := none, op := Go.Op.store 28 _ _, type := _, pos := _, after := _, guard := none } :: _) _ _; refine st4 rfl rfl ⟨rfl, rfl, rfl, rfl⟩ hRk ?_)
                  intro wz hz oz
                  have HO := Lib.hid (off_res HXL.out HOk.out oz)
                  clear hRk oz
                  go_wp2
                  exact bodyPost_ret (by simp [results, Tryd.results23, go_sem, J4.c0 hz, J4.c1 hz, J4.c2 hz, J4.c3 hz]) rfl ⟨HO.out, .inr ⟨70, HE.out, by decide, rfl⟩⟩
            · have hM20 : JZ w20.heap.size (w20.alloc (.cells #[.int .i64 0, .string ⟨#[]⟩, .slice none 0 0, .slice none 0 0] 28)) := Blk.new _ w20
              have hzb : (zz == 0) = false := by rw [beq_eq_false_iff_ne]; exact hzz0
              have hs20 := o20.size
              have HE : Hid (valX d (s.drop k) = .error zz) := Lib.hid (by rw [HP.out]; exact loopX_bad HNM.out hzz)
              have hVw : V < w17.heap.size := HM9.out.blk.lt
              have HR20 := Lib.hid (HR9.out.off o20 (fun e => by have := HXL.out; omega))
              have HO20 := Lib.hid (HO9.out.trans o20 (fun _ h => .inl h))
              go_upto_region 41 with (guard_target =~ Go.wpList _ _ _ ({ dst := none, op := Go.Op.store 28 _ _, type := _, pos := _, after := _, guard := none } :: _) _ _; refine st4 rfl rfl ⟨rfl, rfl, rfl, rfl⟩ hM20 ?_)
              intro w21 hM21 o21
              have oA : Off (fun b => b = w20.heap.size) w20 w21 := ((Off.of_below ((Below.refl _ _).alloc (Nat.le_refl _) _)).mono (fun _ h => h.elim)).trans o21 (fun _ h => .inl h)
              have HR21 := Lib.hid (HR20.out.off oA (fun e => by have := HR20.out.lt; omega))
              have HO21 := Lib.hid (HO20.out.trans oA (fun b h => .inr (by have := HVL.out; omega)))
              clear hM20 hM21 o21 oA o20 hzz HP hVw HR20 HO20 HM9 HR9 HO9 HT9 hs20
              have hRk := HR21.out
              have HOk : Hid (Off (fun b => b = X) (w.alloc (.cells #[.int .i64 0, .string ⟨#[]⟩, .slice none 0 0, .slice none 0 0] 28)) w21) := Lib.hid (by rw [HWA.out]; exact HO21.out)
              go_wp2_with (guard_target =~ Go.wpList _ _ _ ({ dst := none, op := Go.Op.store 28 _ _, type := _, pos := _, after := _, guard := none } :: _) _ _; refine st4 rfl rfl ⟨rfl, rfl, rfl, rfl⟩ hRk ?_)
              intro wz hz oz
              have HO := Lib.hid (off_res HXL.out HOk.out oz)
              clear hRk oz
              go_wp2
              exact bodyPost_ret (by simp [results, Tryd.results23, go_sem, J4.c0 hz, J4.c1 hz, J4.c2 hz, J4.c3 hz]) rfl ⟨HO.out, .inr ⟨zz, HE.out, hzz0, rfl⟩⟩
          · have hz58 : (z6 == 58) = false := by rw [HZ6.out]; exact decide_eq_false h58
            have hz58c : (z6 != 58) = true := by rw [bne, hz58]; rfl
            have HE : Hid (valX d (s.drop k) = .error 70) := Lib.hid (by rw [HP.out]; exact loopX_noname (names_no rfl HX2.out (by rw [← HD6.out]; exact h58)))
            clear h58 HZ6 HX2 HD6 HP HM7
            have hRk := HR7.out
            have HOk : Hid (Off (fun b => b = X) (w.alloc (.cells #[.int .i64 0, .string ⟨#[]⟩, .slice none 0 0, .slice none 0 0] 28)) w15) := Lib.hid (by rw [HWA.out]; exact HO7.out)
            go_wp2_with (guard_target =~ Go.wpList _ _ _ ({ dst := none, op := Go.Op.store 28 _ _, type := _, pos := _, after := _, guard := none } :: _) _ _; refine st4 rfl rfl ⟨rfl, rfl, rfl, rfl⟩ hRk ?_)
            intro wz hz oz
            have HO := Lib.hid (off_res HXL.out HOk.out oz)
            clear hRk oz
            go_wp2
            exact bodyPost_ret (by simp [results, Tryd.results23, go_sem, J4.c0 hz, J4.c1 hz, J4.c2 hz, J4.c3 hz]) rfl ⟨HO.out, .inr ⟨70, HE.out, by decide, rfl⟩⟩
/-- Any value. -/
theorem dval_all : ∀ (N X d k : Nat) (s : Bt) (w : World), TS X s k w → k ≤ s.length → s.length ≤ 100000 → d ≤ 24 → s.length - k ≤ N → Calls Tryd.prog 23 (DArgs X d) w (DOut X d s k w) := by
  intro N
  induction N with
  | zero =>
    intro X d k s w h hk hs hd hN
    have ht : blanksL (s.drop k) = [] := by rw [List.drop_of_length_le (by omega)]; rfl
    exact dval_num h hk ht hs ⟨rfl, rfl, rfl, rfl, rfl⟩ (by simp)
  | succ N ih =>
    intro X d k s w h hk hs hd hN
    obtain ⟨t, ht⟩ : ∃ t, blanksL (s.drop k) = t := ⟨_, rfl⟩
    have HV : d < 24 → DHave X d k s := fun h24 k' W h1 h2 h3 => ih X (d + 1) k' s W h3 h2 hs (by omega) (by omega)
    by_cases y91 : t.head? = some 91
    · exact dval_list h hk ht hs y91 hd HV
    by_cases y123 : t.head? = some 123
    · exact dval_obj h hk ht hs y123 hd HV
    by_cases yn : List.isPrefixOf [110, 117, 108, 108] t = true
    · exact dval_null h hk ht hs yn
    by_cases yf : List.isPrefixOf [102, 97, 108, 115, 101] t = true
    · exact dval_false h hk ht hs yf
    by_cases yt : List.isPrefixOf [116, 114, 117, 101] t = true
    · exact dval_true h hk ht hs yt
    have hb : Bare t := ⟨eq_false_of_ne_true (fun h => y91 (pre_head.1 h)), eq_false_of_ne_true (fun h => y123 (pre_head.1 h)), eq_false_of_ne_true yn, eq_false_of_ne_true yf, eq_false_of_ne_true yt⟩
    by_cases h34 : t.head? = some 34
    · exact dval_text h hk ht hs hb h34
    · exact dval_num h hk ht hs hb h34
end Go.Proofs.YtchgelfomnbpaaaDoor
