/-
  The law XmlTexts: any text stands in an element and in a value as it is, line ends alone turned. Conditions: the library's variable MaxLen holds an int.
-/
import Derived.Test.YtklcjimmbkpbdaaGreatDoorZ45
import Derived.Test.YtklcjimmbkpbdaaGreatDoorZ47
import Derived.Test.YtklcjimmbkpbdaaGreatDoorZ48
import Derived.Test.YtklcjimmbkpbdaaGreatDoorZ06
namespace Go.Proofs.YtklcjimmbkpbdaaGreatDoor
open Go.RowKit
open Go.Lib

theorem nodeT_inner (t : Bt) : innerX (nodeT t) = t := by
  unfold nodeT
  rw [innerX, if_neg (by decide)]
  by_cases h : t = []
  · rw [if_pos h, innersX, h]
  · rw [if_neg h, innersX, innersX, List.append_nil]
    unfold textX
    rw [innerX, if_pos rfl]
theorem nodeT_val (t : Bt) : valX (nodeT t) [98] = t := by
  unfold valX nodeT
  show valA [([], [98], t)] [98] = t
  rw [valA, if_pos ⟨rfl, rfl⟩]
theorem nodeT_w (t : Bt) : wX (nodeT t) ≤ 2 * t.length + 10 := by
  rw [wX_eq]
  unfold nodeT
  simp only [XV.space, XV.name, XV.text, XV.attrs, XV.kids, wA, List.map_cons, List.map_nil, List.sum_cons, List.sum_nil, List.length_cons, List.length_nil]
  by_cases h : t = []
  · rw [if_pos h, wXs]; omega
  · rw [if_neg h, wXs, wXs, wX_eq]
    simp only [textX, XV.space, XV.name, XV.text, XV.attrs, XV.kids, wA, wXs, List.map_nil, List.sum_nil, List.length_nil]
    omega
theorem nodeT_pr {t : Bt} (h : openB t = true) : prX (nodeT t) = printX (nodeT t) [] ∧ prEX (nodeT t) = 0 := by
  unfold prX prEX
  rw [nodeT_right h]
  exact ⟨rfl, rfl⟩
theorem rc_one {w : World} {A : Nat} {t : Bt} (h : Blk A (.cells #[sV [], sV [98], sV t] TA3 (0, 0)) w) : RC w (fun _ => True) (some ⟨A, 0, none⟩) (cA [([], [98], t)]) := fun _ => ⟨A, 0, rfl, trivial, h.lt, fun j u hj => by
  have e : cA [([], [98], t)] = [sV [], sV [98], sV t] := rfl
  rw [e] at hj
  rw [Nat.zero_add, h.cell j]
  simpa using hj⟩
theorem nodeT_nil {w : World} {A : Nat} (h : Blk A (.cells #[sV [], sV [98], sV []] TA3 (0, 0)) w) : XR w (fun _ => True) (nodeT []) (.agg #[sV [], sV [97], .slice (some ⟨A, 0, none⟩) 1 1, .slice none 0 0, sV []]) := by
  unfold nodeT
  rw [if_pos rfl]
  exact XR.of (aA := some ⟨A, 0, none⟩) (kA := none) (ac := 1) (kc := 0) (rc_one h) (fun h => absurd h (Nat.lt_irrefl _))
theorem nodeT_cons {w : World} {A K : Nat} {t : Bt} (ht : t ≠ []) (h : Blk A (.cells #[sV [], sV [98], sV t] TA3 (0, 0)) w) (hk : Blk K (.cells #[sV [], sV [], .slice none 0 0, .slice none 0 0, sV t] TNo (0, 0)) w) : XR w (fun _ => True) (nodeT t) (.agg #[sV [], sV [97], .slice (some ⟨A, 0, none⟩) 1 1, .slice (some ⟨K, 0, none⟩) 1 1, sV []]) := by
  unfold nodeT
  rw [if_neg ht]
  refine XR.of (aA := some ⟨A, 0, none⟩) (kA := some ⟨K, 0, none⟩) (ac := 1) (kc := 1) (rc_one h) (fun _ => ⟨K, 0, rfl, trivial, hk.lt, ?_⟩)
  rw [XRl, XRl]
  exact ⟨⟨_, _, _, _, _, hk.cell 0, hk.cell 1, hk.cell 2, hk.cell 3, hk.cell 4, xr_text w _ t⟩, trivial⟩
theorem plain8_any (s : Bt) (hs : s.length ≤ 1000000) (W : World) : Calls Tryz.prog 26 #[.string (bs s)] W (fun e w' => e = .returned (.string (bs (enc ((pts s).filter inXml)))) ∧ Below W.heap.size W w') := by
  have := rplain_any (bs s) W (by rw [bs_size]; exact hs)
  rw [bs_list] at this
  exact this
theorem plain_lines (s : Bt) : PTn s.length (linesL (enc ((pts s).filter inXml))) := by
  refine (lines_enc _ (fun z hz => pts_allPt s z (List.mem_filter.1 hz).1) (fun z hz => (List.mem_filter.1 hz).2)).mono ?_
  have h2 := List.length_filter_le inXml (pts s)
  have h3 := pts_length_le s
  omega
set_option maxRecDepth 100000 in
set_option maxHeartbeats 16000000 in
theorem law_texts {s : Bt} {w : World} (hm : ML w) : Calls Tryz.prog 8 #[.string (bs s)] w (BoO true w) := by
  have HF := Lib.hid (first_any w hm)
  unfold BoO at HF
  have HM := Lib.hid hm
  clear hm
  obtain ⟨n, hn⟩ : ∃ n, s.length = n := ⟨_, rfl⟩
  have hsz : (bs s).size = n := by rw [bs_size, hn]
  by_cases hbig : 2000 < n
  · have hbi : (2000 : Int) < (n : Int) := by omega
    go_enter Tryz.func8, Tryz.ntmps8
    go_wp2_with fail
    refine HF.out.mono ?_
    rintro e w1 ⟨rfl, b1⟩
    go_wp2
    go_ret
    exact ⟨rfl, b1⟩
  · have hbi : ¬ (2000 : Int) < (n : Int) := by omega
    have HPL := Lib.hid (fun W => plain8_any s (by omega) W)
    have hpn := plain_lines s
    obtain ⟨q, hq⟩ : ∃ q, enc ((pts s).filter inXml) = q := ⟨_, rfl⟩
    have hql : q.length ≤ 8000 := by
      rw [← hq]
      have h1 := enc_length_le ((pts s).filter inXml)
      have h2 := List.length_filter_le inXml (pts s)
      have h3 := pts_length_le s
      omega
    rw [hq] at hpn HPL
    have hop := open_of hpn (lines_no13 q)
    have HLI := Lib.hid (fun W => rlines_any q W (by omega))
    have hql2 : (linesL q).length ≤ 8000 := by have := lines_le q; omega
    obtain ⟨t, ht⟩ : ∃ t, linesL q = t := ⟨_, rfl⟩
    rw [ht] at hop HLI hql2 hpn
    have HBK := Lib.hid (nodeT_back hop (hpn.mono (by omega)))
    have hpr := nodeT_pr hop
    have HPR : Hid (∀ (W : World) (x : Value) (T : Nat → Prop), XR W T (nodeT t) x → ML W → Calls Tryz.prog 15 #[x] W (fun e w' => e = .returned (.tuple #[.string (bs (printX (nodeT t) [])), .int .i64 0]) ∧ Below W.heap.size W w')) := Lib.hid (fun W x T hx hM => by
      have := print_any8 hx (by have := nodeT_w t; omega) hM
      rw [hpr.1, hpr.2] at this
      exact this)
    have HIN : Hid (∀ (W : World) (x : Value) (T : Nat → Prop), XR W T (nodeT t) x → Calls Tryz.prog 23 #[x] W (fun e w' => e = .returned (.string (bs t)) ∧ Below W.heap.size W w')) := Lib.hid (fun W x T hx => by
      have := inner_any hx (by have := nodeT_w t; omega)
      rw [nodeT_inner] at this
      exact this)
    have HVA : Hid (∀ (W : World) (x : Value) (T : Nat → Prop), XR W T (nodeT t) x → Calls Tryz.prog 21 #[x, .string ⟨#[98]⟩] W (fun e w' => e = .returned (.string (bs t)) ∧ Below W.heap.size W w')) := Lib.hid (fun W x T hx => by
      have := value8_any hx (by have := nodeT_w t; omega) [98]
      rw [nodeT_val] at this
      exact this)
    have HSM : Hid (∀ (W : World) (x y : Value) (T U : Nat → Prop), XR W T (nodeT t) x → XR W U (nodeT t) y → Calls Tryz.prog 12 #[x, y] W (fun e w' => e = .returned (.bool true) ∧ Below W.heap.size W w')) := Lib.hid (fun W x y T U hx hy => same_any (by have := nodeT_w t; have := cX_wX (nodeT t); omega) hx hy)
    have htt : ((bs t).toList == (bs t).toList) = true := beq_self_eq_true _
    clear hq ht hpr hpn hql
    go_enter Tryz.func8, Tryz.ntmps8
    go_wp2_with fail
    refine HF.out.mono ?_
    rintro e w1 ⟨rfl, b1⟩
    have HB1 := Lib.hid b1
    clear HF b1
    go_wp2_with fail
    refine (HPL.out _).mono ?_
    rintro e w2 ⟨rfl, b2⟩
    have HB2 := Lib.hid (HB1.out.trans (b2.mono HB1.out.size))
    clear b2 HB1
    go_wp2_with fail
    refine (HLI.out _).mono ?_
    rintro e w3 ⟨rfl, b3⟩
    have HB3 := Lib.hid (HB2.out.trans (b3.mono HB2.out.size))
    clear b3 HB2 HPL HLI
    obtain ⟨A, hA⟩ : ∃ A, w3.heap.size = A := ⟨_, rfl⟩
    have bA := below_alloc8 w3 (.cells #[.string ⟨#[]⟩, .string ⟨#[98]⟩, .string (bs t)] TA3 (0, 0))
    have hAB := Blk.new (.cells #[.string ⟨#[]⟩, .string ⟨#[98]⟩, .string (bs t)] TA3 (0, 0)) w3
    have bN := below_alloc8 (w3.alloc (.cells #[.string ⟨#[]⟩, .string ⟨#[98]⟩, .string (bs t)] TA3 (0, 0))) (.cells #[.string ⟨#[]⟩, .string ⟨#[97]⟩, .slice (some ⟨A, 0, none⟩) 1 1, .slice none 0 0, .string ⟨#[]⟩] TNo (0, 0))
    have hNB := Blk.new (.cells #[.string ⟨#[]⟩, .string ⟨#[97]⟩, .slice (some ⟨A, 0, none⟩) 1 1, .slice none 0 0, .string ⟨#[]⟩] TNo (0, 0)) (w3.alloc (.cells #[.string ⟨#[]⟩, .string ⟨#[98]⟩, .string (bs t)] TA3 (0, 0)))
    have hAB2 := (Off.of_below bN).blk hAB (fun h => h)
    have hsA : (w3.alloc (.cells #[.string ⟨#[]⟩, .string ⟨#[98]⟩, .string (bs t)] TA3 (0, 0))).heap.size = A + 1 := by simp [hA]
    rw [hsA] at hNB
    rw [hA] at hAB2
    have HB5 := Lib.hid (HB3.out.trans ((bA.trans (bN.mono bA.size)).mono HB3.out.size))
    have HAB := Lib.hid hAB2
    have HNB := Lib.hid hNB
    clear bA hAB bN hNB hAB2 hsA
    by_cases h0 : t = []
    · have hs0 : (bs t).toList = [] := by rw [bs_toList]; exact h0
      have HXR : Hid (XR ((w3.alloc (.cells #[.string ⟨#[]⟩, .string ⟨#[98]⟩, .string (bs t)] TA3 (0, 0))).alloc (.cells #[.string ⟨#[]⟩, .string ⟨#[97]⟩, .slice (some ⟨A, 0, none⟩) 1 1, .slice none 0 0, .string ⟨#[]⟩] TNo (0, 0))) (fun _ => True) (nodeT t) (.agg #[.string ⟨#[]⟩, .string ⟨#[97]⟩, .slice (some ⟨A, 0, none⟩) 1 1, .slice none 0 0, .string ⟨#[]⟩])) := Lib.hid (by
        have h := HAB.out
        rw [h0] at h ⊢
        exact nodeT_nil h)
      clear h0
      go_upto_region 9 with fail
      generalize (w3.alloc (.cells #[.string ⟨#[]⟩, .string ⟨#[98]⟩, .string (bs t)] TA3 (0, 0))).alloc (.cells #[.string ⟨#[]⟩, .string ⟨#[97]⟩, .slice (some ⟨A, 0, none⟩) 1 1, .slice none 0 0, .string ⟨#[]⟩] TNo (0, 0)) = w5 at *
      have i0 := HNB.out.cell 0
      have i1 := HNB.out.cell 1
      have i2 := HNB.out.cell 2
      have i3 := HNB.out.cell 3
      have i4 := HNB.out.cell 4
      have HP1 := Lib.hid (HPR.out _ _ _ HXR.out (HM.out.below HB5.out))
      go_wp2_with fail
      refine HP1.out.mono ?_
      rintro e w6 ⟨rfl, b6⟩
      obtain ⟨C7, w7, hcv, b7, hr7⟩ := conv_str8 w6 (printX (nodeT t) [])
      have hB6 := HB5.out.trans (b6.mono HB5.out.size)
      have hB7 := hB6.trans (b7.mono hB6.size)
      have P2 := parse_any8 (c := C7) (n := (printX (nodeT t) []).length) rfl hr7 (HM.out.below hB7)
      rw [HBK.out] at P2
      unfold PaO at P2
      have HP2 := Lib.hid P2
      have b67 := b6.trans (b7.mono b6.size)
      have HX7 := Lib.hid (HXR.out.below b67)
      have HN7 := Lib.hid ((Off.of_below b67).blk HNB.out (fun h => h))
      have HB7 := Lib.hid hB7
      obtain ⟨pl, hpl⟩ : ∃ x, printX (nodeT t) [] = x := ⟨_, rfl⟩
      rw [hpl] at hcv HP2 ⊢
      obtain ⟨n7, hn7⟩ : ∃ x, pl.length = x := ⟨_, rfl⟩
      rw [hn7] at hcv HP2
      clear P2 b6 b7 hr7 hB6 hB7 b67 HXR HNB HB5 hpl hn7 HP1 i0 i1 i2 i3 i4
      go_wp2_with fail
      refine HP2.out.mono ?_
      clear HP2 hcv
      rintro e w8 ⟨b8, y, rfl, hy⟩
      try simp only at hy
      have HY0 := Lib.hid hy
      obtain ⟨yA, yc, ykA, ykc, rfl⟩ := xr_one hy
      obtain ⟨Y0, hY0⟩ : ∃ s, (nodeT t).space = s := ⟨_, rfl⟩
      obtain ⟨Y1, hY1⟩ : ∃ s, (nodeT t).name = s := ⟨_, rfl⟩
      obtain ⟨Y4, hY4⟩ : ∃ s, (nodeT t).text = s := ⟨_, rfl⟩
      obtain ⟨mA, hmA⟩ : ∃ s, (nodeT t).attrs.length = s := ⟨_, rfl⟩
      obtain ⟨mK, hmK⟩ : ∃ s, (nodeT t).kids.length = s := ⟨_, rfl⟩
      rw [hY0, hY1, hY4, hmA, hmK] at HY0
      rw [hY0, hY1, hY4, hmA, hmK]
      have b9 := below_alloc8 w8 (.cells #[sV Y0, sV Y1, .slice yA mA yc, .slice ykA mK ykc, sV Y4] TNo (0, 0))
      have b89 := b8.trans (b9.mono b8.size)
      have HV9 := Lib.hid (Blk.new (.cells #[sV Y0, sV Y1, .slice yA mA yc, .slice ykA mK ykc, sV Y4] TNo (0, 0)) w8)
      have HY9 := Lib.hid (HY0.out.below b9)
      have HX9 := Lib.hid (HX7.out.below b89)
      have HN9 := Lib.hid ((Off.of_below b89).blk HN7.out (fun h => h))
      have HB9 := Lib.hid (HB7.out.trans (b89.mono HB7.out.size))
      clear hy b8 b9 b89 HY0 HX7 HN7 HB7 hY0 hY1 hY4 hmA hmK
      have j0 := HV9.out.cell 0
      have j1 := HV9.out.cell 1
      have j2 := HV9.out.cell 2
      have j3 := HV9.out.cell 3
      have j4 := HV9.out.cell 4
      go_wp2_with fail
      refine (HIN.out _ _ _ HY9.out).mono ?_
      rintro e w10 ⟨rfl, b10⟩
      have HV10 := Lib.hid ((Off.of_below b10).blk HV9.out (fun h => h))
      have HN10 := Lib.hid ((Off.of_below b10).blk HN9.out (fun h => h))
      have HY10 := Lib.hid (HY9.out.below b10)
      have HX10 := Lib.hid (HX9.out.below b10)
      have HB10 := Lib.hid (HB9.out.trans (b10.mono HB9.out.size))
      clear b10 HV9 HN9 HY9 HX9 HB9 j0 j1 j2 j3 j4
      have j0 := HV10.out.cell 0
      have j1 := HV10.out.cell 1
      have j2 := HV10.out.cell 2
      have j3 := HV10.out.cell 3
      have j4 := HV10.out.cell 4
      go_wp2_with fail
      refine (HVA.out _ _ _ HY10.out).mono ?_
      rintro e w11 ⟨rfl, b11⟩
      have HV11 := Lib.hid ((Off.of_below b11).blk HV10.out (fun h => h))
      have HN11 := Lib.hid ((Off.of_below b11).blk HN10.out (fun h => h))
      have HY11 := Lib.hid (HY10.out.below b11)
      have HX11 := Lib.hid (HX10.out.below b11)
      have HB11 := Lib.hid (HB10.out.trans (b11.mono HB10.out.size))
      clear b11 HV10 HN10 HY10 HX10 HB10 j0 j1 j2 j3 j4
      have j0 := HV11.out.cell 0
      have j1 := HV11.out.cell 1
      have j2 := HV11.out.cell 2
      have j3 := HV11.out.cell 3
      have j4 := HV11.out.cell 4
      have i0 := HN11.out.cell 0
      have i1 := HN11.out.cell 1
      have i2 := HN11.out.cell 2
      have i3 := HN11.out.cell 3
      have i4 := HN11.out.cell 4
      go_wp2_with fail
      refine (HSM.out _ _ _ _ _ HY11.out HX11.out).mono ?_
      rintro e w12 ⟨rfl, b12⟩
      have HBE := Lib.hid (HB11.out.trans (b12.mono HB11.out.size))
      clear b12
      go_wp2
      go_ret
      exact BoO.of rfl HBE.out
    · have hs0 : ¬ (bs t).toList = [] := by rw [bs_toList]; exact h0
      have hs1 : (bs t).toList.isEmpty = false := by rw [bs_toList]; cases hq : t with | nil => exact absurd hq h0 | cons => rfl
      have hb0 : ((bs t).toList == []) = false := by rw [bs_toList]; exact beq_false_of_ne h0
      clear hs0 hs1 hb0
      go_upto_region 7 with fail
      generalize (w3.alloc (.cells #[.string ⟨#[]⟩, .string ⟨#[98]⟩, .string (bs t)] TA3 (0, 0))).alloc (.cells #[.string ⟨#[]⟩, .string ⟨#[97]⟩, .slice (some ⟨A, 0, none⟩) 1 1, .slice none 0 0, .string ⟨#[]⟩] TNo (0, 0)) = w4 at *
      have hs0 : ¬ (bs t).toList = [] := by rw [bs_toList]; exact h0
      have hs1 : (bs t).toList.isEmpty = false := by rw [bs_toList]; cases hq : t with | nil => exact absurd hq h0 | cons => rfl
      have hb0 : ((bs t).toList == []) = false := by rw [bs_toList]; exact beq_false_of_ne h0
      have bK := below_alloc8 w4 (.cells #[.string ⟨#[]⟩, .string ⟨#[]⟩, .slice none 0 0, .slice none 0 0, .string (bs t)] TNo (0, 0))
      have hKB := Blk.new (.cells #[.string ⟨#[]⟩, .string ⟨#[]⟩, .slice none 0 0, .slice none 0 0, .string (bs t)] TNo (0, 0)) w4
      have hAB5 := (Off.of_below bK).blk HAB.out (fun h => h)
      have hNB5 := (Off.of_below bK).blk HNB.out (fun h => h)
      obtain ⟨K, hKe⟩ : ∃ K, w4.heap.size = K := ⟨_, rfl⟩
      have hNK : A + 1 < K := by have := HNB.out.lt; omega
      rw [hKe] at hKB
      have f3 := hNB5.free 3
      have c3 := hNB5.cell 3
      have oS := off_set8 (w4.alloc (.cells #[.string ⟨#[]⟩, .string ⟨#[]⟩, .slice none 0 0, .slice none 0 0, .string (bs t)] TNo (0, 0))) (A + 1) 3 (.slice (some ⟨K, 0, none⟩) 1 1)
      have hNB6 : Blk (A + 1) (.cells #[.string ⟨#[]⟩, .string ⟨#[97]⟩, .slice (some ⟨A, 0, none⟩) 1 1, .slice (some ⟨K, 0, none⟩) 1 1, .string ⟨#[]⟩] TNo (0, 0)) ((w4.alloc (.cells #[.string ⟨#[]⟩, .string ⟨#[]⟩, .slice none 0 0, .slice none 0 0, .string (bs t)] TNo (0, 0))).setCell ⟨A + 1, 3, none⟩ (.slice (some ⟨K, 0, none⟩) 1 1)) := by have := hNB5.set 3 (.slice (some ⟨K, 0, none⟩) 1 1); simpa using this
      have HXR := Lib.hid (nodeT_cons h0 (oS.blk hAB5 (fun e => by omega)) (oS.blk hKB (fun e => by omega)))
      have hAw : w.heap.size ≤ A := by have := HB3.out.size; omega
      have HB6 : Hid (Below w.heap.size w ((w4.alloc (.cells #[.string ⟨#[]⟩, .string ⟨#[]⟩, .slice none 0 0, .slice none 0 0, .string (bs t)] TNo (0, 0))).setCell ⟨A + 1, 3, none⟩ (.slice (some ⟨K, 0, none⟩) 1 1))) := Lib.hid (((Off.of_below (HB5.out.trans (bK.mono HB5.out.size))).trans oS (fun b hb => .inr (by omega))).below (fun _ h => h.elim))
      have HNB6 := Lib.hid hNB6
      have n0 := HNB.out.cell 3
      clear h0 bK hKB hAB5 hNB5 hNB6 oS HNB HAB HB5 hNK hAw
      go_upto_region 9 with fail
      try rw [hKe]
      generalize (w4.alloc (.cells #[.string ⟨#[]⟩, .string ⟨#[]⟩, .slice none 0 0, .slice none 0 0, .string (bs t)] TNo (0, 0))).setCell ⟨A + 1, 3, none⟩ (.slice (some ⟨K, 0, none⟩) 1 1) = w5 at *
      have HNB := Lib.hid HNB6.out
      have HB5 := Lib.hid HB6.out
      clear HNB6 HB6 f3 c3 n0 hKe
      have i0 := HNB.out.cell 0
      have i1 := HNB.out.cell 1
      have i2 := HNB.out.cell 2
      have i3 := HNB.out.cell 3
      have i4 := HNB.out.cell 4
      have HP1 := Lib.hid (HPR.out _ _ _ HXR.out (HM.out.below HB5.out))
      go_wp2_with fail
      refine HP1.out.mono ?_
      rintro e w6 ⟨rfl, b6⟩
      obtain ⟨C7, w7, hcv, b7, hr7⟩ := conv_str8 w6 (printX (nodeT t) [])
      have hB6 := HB5.out.trans (b6.mono HB5.out.size)
      have hB7 := hB6.trans (b7.mono hB6.size)
      have P2 := parse_any8 (c := C7) (n := (printX (nodeT t) []).length) rfl hr7 (HM.out.below hB7)
      rw [HBK.out] at P2
      unfold PaO at P2
      have HP2 := Lib.hid P2
      have b67 := b6.trans (b7.mono b6.size)
      have HX7 := Lib.hid (HXR.out.below b67)
      have HN7 := Lib.hid ((Off.of_below b67).blk HNB.out (fun h => h))
      have HB7 := Lib.hid hB7
      obtain ⟨pl, hpl⟩ : ∃ x, printX (nodeT t) [] = x := ⟨_, rfl⟩
      rw [hpl] at hcv HP2 ⊢
      obtain ⟨n7, hn7⟩ : ∃ x, pl.length = x := ⟨_, rfl⟩
      rw [hn7] at hcv HP2
      clear P2 b6 b7 hr7 hB6 hB7 b67 HXR HNB HB5 hpl hn7 HP1 i0 i1 i2 i3 i4
      go_wp2_with fail
      refine HP2.out.mono ?_
      clear HP2 hcv
      rintro e w8 ⟨b8, y, rfl, hy⟩
      try simp only at hy
      have HY0 := Lib.hid hy
      obtain ⟨yA, yc, ykA, ykc, rfl⟩ := xr_one hy
      obtain ⟨Y0, hY0⟩ : ∃ s, (nodeT t).space = s := ⟨_, rfl⟩
      obtain ⟨Y1, hY1⟩ : ∃ s, (nodeT t).name = s := ⟨_, rfl⟩
      obtain ⟨Y4, hY4⟩ : ∃ s, (nodeT t).text = s := ⟨_, rfl⟩
      obtain ⟨mA, hmA⟩ : ∃ s, (nodeT t).attrs.length = s := ⟨_, rfl⟩
      obtain ⟨mK, hmK⟩ : ∃ s, (nodeT t).kids.length = s := ⟨_, rfl⟩
      rw [hY0, hY1, hY4, hmA, hmK] at HY0
      rw [hY0, hY1, hY4, hmA, hmK]
      have b9 := below_alloc8 w8 (.cells #[sV Y0, sV Y1, .slice yA mA yc, .slice ykA mK ykc, sV Y4] TNo (0, 0))
      have b89 := b8.trans (b9.mono b8.size)
      have HV9 := Lib.hid (Blk.new (.cells #[sV Y0, sV Y1, .slice yA mA yc, .slice ykA mK ykc, sV Y4] TNo (0, 0)) w8)
      have HY9 := Lib.hid (HY0.out.below b9)
      have HX9 := Lib.hid (HX7.out.below b89)
      have HN9 := Lib.hid ((Off.of_below b89).blk HN7.out (fun h => h))
      have HB9 := Lib.hid (HB7.out.trans (b89.mono HB7.out.size))
      clear hy b8 b9 b89 HY0 HX7 HN7 HB7 hY0 hY1 hY4 hmA hmK
      have j0 := HV9.out.cell 0
      have j1 := HV9.out.cell 1
      have j2 := HV9.out.cell 2
      have j3 := HV9.out.cell 3
      have j4 := HV9.out.cell 4
      go_wp2_with fail
      refine (HIN.out _ _ _ HY9.out).mono ?_
      rintro e w10 ⟨rfl, b10⟩
      have HV10 := Lib.hid ((Off.of_below b10).blk HV9.out (fun h => h))
      have HN10 := Lib.hid ((Off.of_below b10).blk HN9.out (fun h => h))
      have HY10 := Lib.hid (HY9.out.below b10)
      have HX10 := Lib.hid (HX9.out.below b10)
      have HB10 := Lib.hid (HB9.out.trans (b10.mono HB9.out.size))
      clear b10 HV9 HN9 HY9 HX9 HB9 j0 j1 j2 j3 j4
      have j0 := HV10.out.cell 0
      have j1 := HV10.out.cell 1
      have j2 := HV10.out.cell 2
      have j3 := HV10.out.cell 3
      have j4 := HV10.out.cell 4
      go_wp2_with fail
      refine (HVA.out _ _ _ HY10.out).mono ?_
      rintro e w11 ⟨rfl, b11⟩
      have HV11 := Lib.hid ((Off.of_below b11).blk HV10.out (fun h => h))
      have HN11 := Lib.hid ((Off.of_below b11).blk HN10.out (fun h => h))
      have HY11 := Lib.hid (HY10.out.below b11)
      have HX11 := Lib.hid (HX10.out.below b11)
      have HB11 := Lib.hid (HB10.out.trans (b11.mono HB10.out.size))
      clear b11 HV10 HN10 HY10 HX10 HB10 j0 j1 j2 j3 j4
      have j0 := HV11.out.cell 0
      have j1 := HV11.out.cell 1
      have j2 := HV11.out.cell 2
      have j3 := HV11.out.cell 3
      have j4 := HV11.out.cell 4
      have i0 := HN11.out.cell 0
      have i1 := HN11.out.cell 1
      have i2 := HN11.out.cell 2
      have i3 := HN11.out.cell 3
      have i4 := HN11.out.cell 4
      go_wp2_with fail
      refine (HSM.out _ _ _ _ _ HY11.out HX11.out).mono ?_
      rintro e w12 ⟨rfl, b12⟩
      have HBE := Lib.hid (HB11.out.trans (b12.mono HB11.out.size))
      clear b12
      go_wp2
      go_ret
      exact BoO.of rfl HBE.out
end Go.Proofs.YtklcjimmbkpbdaaGreatDoor
