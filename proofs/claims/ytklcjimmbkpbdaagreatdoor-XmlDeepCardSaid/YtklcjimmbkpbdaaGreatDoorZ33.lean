/-
  The law XmlDeep: a text within elements is one document or another, and within more than 24 of them too deep. Conditions: the library's variable MaxLen holds an int.
-/
import Derived.Test.YtklcjimmbkpbdaaGreatDoorZ26
import Derived.Test.YtklcjimmbkpbdaaGreatDoorZ32
namespace Go.Proofs.YtklcjimmbkpbdaaGreatDoor
open Go.RowKit
open Go.Lib
set_option maxRecDepth 100000 in
set_option maxHeartbeats 4000000 in
theorem law_deep8 {s : Bt} {nb : Int} {w : World} (hm : ML w) (h0 : 0 ≤ nb) (h1 : nb ≤ 255) :
    Calls Tryz.prog 4 #[.int .u8 nb, .string (bs s)] w (BoO true w) := by
 have HF := hid (first_any w hm)
 unfold BoO at HF
 have HM := hid hm
 obtain ⟨n, hn⟩ : ∃ n, s.length = n := ⟨_, rfl⟩
 have hsz : (bs s).size = n := by rw [bs_size, hn]
 have HN := hid hn
 clear hm hn
 by_cases hbig : 300 < n
 ·have hbi : (300 : Int) < (n : Int) := by omega
  go_enter Tryz.func4, Tryz.ntmps4
  go_wp2_with fail
  refine HF.out.mono ?_
  rintro e w1 ⟨rfl, b1⟩
  go_wp2
  go_ret
  exact BoO.of rfl b1
 ·have hbi : ¬ (300 : Int) < (n : Int) := by omega
  obtain ⟨m, hm⟩ : ∃ m : Nat, nb % 60 = (m : Int) := ⟨(nb % 60).toNat, by omega⟩
  have hm60 : m < 60 := by omega
  have HMO := hid hm
  have HPL : Hid (∀ W, Calls Tryz.prog 13 #[.string (bs s)] W (fun e w' => e = .returned (.bool (plainB s)) ∧ Below W.heap.size W w')) := hid (fun W => rplain8_any s W (by have := HN.out; omega))
  clear hm
  go_enter Tryz.func4, Tryz.ntmps4
  go_wp2_with fail
  refine HF.out.mono ?_
  rintro e w1 ⟨rfl, b1⟩
  have HB1 := hid b1
  clear HF b1
  go_wp2
  go_loopw [5, 20] (fun s5 i wr => ∃ j : Nat, j ≤ m ∧ i = .int .i64 j ∧ s5 = .string (bs (wrapX s j)) ∧ Hid (Below w.heap.size w wr)) (fun _ i _ => m - (RowKit.intOf i).toNat)
  case atStart => exact ⟨0, Nat.zero_le _, rfl, rfl, HB1⟩
  case round =>
   clear HB1
   obtain ⟨j, hj, rfl, rfl, HB2⟩ := hrel
   by_cases hjm : j < m
   ·have hlt : (j : Int) < nb % 60 := by have := HMO.out; omega
    have hl := wrap_len s j
    have hl2 : (wrapX s j).length ≤ 2000 := by have := HN.out; omega
    have e0 : wrapX s (j + 1) = if j % 3 = 0 then openP ++ wrapX s j ++ shutP else openQ ++ wrapX s j ++ shutQ := by rw [wrapX]
    obtain ⟨x, hx⟩ : ∃ x, wrapX s j = x := ⟨_, rfl⟩
    obtain ⟨y, hy⟩ : ∃ y, wrapX s (j + 1) = y := ⟨_, rfl⟩
    rw [hx, hy] at e0
    rw [hx] at hl2 ⊢
    have HY := hid hy
    clear hl hx hy
    by_cases hr : j % 3 = 0
    ·have hrI : (j : Int) % 3 = 0 := by omega
     rw [if_pos hr] at e0
     have ha1 : ∀ W, (Op.stringOp .add ⟨#[60, 112, 58, 97, 32, 120, 109, 108, 110, 115, 58, 112, 61, 39, 117, 39, 62]⟩ (bs x)).run Tryz.prog W = .ok (.string (bs (openP ++ x))) W := fun W => add8 openP x (by rw [show openP.length = 17 from rfl]; omega) _ rfl W
     have ha2 : ∀ W, (Op.stringOp .add (bs (openP ++ x)) ⟨#[60, 47, 112, 58, 97, 62]⟩).run Tryz.prog W = .ok (.string (bs y)) W := fun W => add8 (openP ++ x) shutP (by rw [List.length_append, show openP.length = 17 from rfl, show shutP.length = 6 from rfl]; omega) _ e0.symm W
     obtain ⟨x1, hx1⟩ : ∃ z, openP ++ x = z := ⟨_, rfl⟩
     rw [hx1] at ha1 ha2
     clear hr e0 hx1
     go_wp2
     go_roundw
     case rel => exact ⟨j + 1, by omega, by go_num, by rw [HY.out], HB2⟩
     case measure => simp [RowKit.intOf]; omega
    ·have hrI : ¬ (j : Int) % 3 = 0 := by omega
     rw [if_neg hr] at e0
     have ha1 : ∀ W, (Op.stringOp .add ⟨#[60, 98, 62]⟩ (bs x)).run Tryz.prog W = .ok (.string (bs (openQ ++ x))) W := fun W => add8 openQ x (by rw [show openQ.length = 3 from rfl]; omega) _ rfl W
     have ha2 : ∀ W, (Op.stringOp .add (bs (openQ ++ x)) ⟨#[60, 47, 98, 62]⟩).run Tryz.prog W = .ok (.string (bs y)) W := fun W => add8 (openQ ++ x) shutQ (by rw [List.length_append, show openQ.length = 3 from rfl, show shutQ.length = 4 from rfl]; omega) _ e0.symm W
     obtain ⟨x1, hx1⟩ : ∃ z, openQ ++ x = z := ⟨_, rfl⟩
     rw [hx1] at ha1 ha2
     clear hr e0 hx1
     go_wp2
     go_roundw
     case rel => exact ⟨j + 1, by omega, by go_num, by rw [HY.out], HB2⟩
     case measure => simp [RowKit.intOf]; omega
   ·obtain rfl : m = j := by omega
    have hge : ¬ (m : Int) < nb % 60 := by have := HMO.out; omega
    obtain ⟨V0, hV0⟩ : ∃ V, V = wr := ⟨_, rfl⟩
    subst hV0
    have hl := wrap_len s m
    have HDP : Hid (24 < m → plainB s = true → parseX (wrapX s m) = (zeroX, 71)) := hid (fun h24 hp => parse_deep ((plain_iff s).1 hp) (by have := HN.out; omega) m h24 hm60)
    have HCX := hid (parse_cX (wrapX s m))
    obtain ⟨d, hd⟩ : ∃ d, wrapX s m = d := ⟨_, rfl⟩
    rw [hd] at HDP HCX ⊢
    clear hd hl
    obtain ⟨nd, hnd⟩ : ∃ k, d.length = k := ⟨_, rfl⟩
    have HND := hid hnd
    have HP1 := hid (fun W C A (hW : Below w.heap.size w W) (hr : RB W A d) => parse_any8 (c := C) hnd hr (HM.out.below hW))
    have HP2 := hid (fun W C A (hr : RB W A d) => rparse_doc (w := W) (c := C) hnd hr)
    obtain ⟨p, hp⟩ : ∃ p, parseX d = p := ⟨_, rfl⟩
    rw [hp] at HP1 HP2 HCX HDP
    clear hp hnd
    obtain ⟨v, k⟩ := p
    unfold PaO at HP1 HP2
    by_cases h24 : m ≤ 24
    ·have h24i : nb % 60 ≤ 24 := by have := HMO.out; omega
     clear HDP HPL
     as_aux_lemma =>
      obtain ⟨C3, w3, hcv, b3, hr3⟩ := conv_str8 V0 d
      rw [HND.out] at hcv
      have HB3 := hid (HB2.out.trans (b3.mono HB2.out.size))
      have HQ1 := hid (HP1.out w3 C3 _ HB3.out hr3)
      clear HP1 b3 hr3 HB2
      go_wp2_with fail
      refine HQ1.out.mono ?_
      clear HQ1
      rintro e w4 ⟨b4, y, rfl, hy⟩
      try simp only at hy
      have HY := hid hy
      obtain ⟨yA, yc, ykA, ykc, rfl⟩ := xr_one hy
      obtain ⟨nA, hnA⟩ : ∃ n, v.attrs.length = n := ⟨_, rfl⟩
      obtain ⟨nK, hnK⟩ : ∃ n, v.kids.length = n := ⟨_, rfl⟩
      rw [hnA, hnK] at HY ⊢
      have HNA := hid hnA
      have HNK := hid hnK
      have HB4 := hid (HB3.out.trans (b4.mono HB3.out.size))
      have b5 := below_alloc8 w4 (.cells #[sV v.space, sV v.name, .slice yA nA yc, .slice ykA nK ykc, sV v.text] TNo)
      have HV5 := hid (Blk.new (.cells #[sV v.space, sV v.name, .slice yA nA yc, .slice ykA nK ykc, sV v.text] TNo) w4)
      have HY5 := hid (HY.out.below b5)
      have HB5 := hid (HB4.out.trans (b5.mono HB4.out.size))
      obtain ⟨C6, w6, hcv6, b6, hr6⟩ := conv_str8 (w4.alloc (.cells #[sV v.space, sV v.name, .slice yA nA yc, .slice ykA nK ykc, sV v.text] TNo)) d
      rw [HND.out] at hcv6
      have hs6 : (w4.alloc (.cells #[sV v.space, sV v.name, .slice yA nA yc, .slice ykA nK ykc, sV v.text] TNo)).heap.size = w4.heap.size + 1 := Array.size_push ..
      rw [hs6] at hcv6 hr6
      have HV6 := hid ((Off.of_below b6).blk HV5.out (fun h => h))
      have HY6 := hid (HY5.out.below b6)
      have HB6 := hid (HB5.out.trans (b6.mono HB5.out.size))
      have HQ2 := hid (HP2.out w6 C6 _ hr6)
      clear hy hnA hnK b4 b5 b6 hr6 hs6 hcv HP2 HB3 HB4 HB5 HV5 HY5 HY
      go_wp2_with fail
      refine HQ2.out.mono ?_
      clear HQ2 hcv6
      rintro e w7 ⟨b7, zz, rfl, hz⟩
      try simp only at hz
      have HZ := hid hz
      obtain ⟨zA, zc, zkA, zkc, rfl⟩ := xr_one hz
      rw [HNA.out, HNK.out] at HZ ⊢
      have HB7 := hid (HB6.out.trans (b7.mono HB6.out.size))
      have HY7 := hid (XR.below HY6.out b7)
      have HV7 := hid ((Off.of_below b7).blk HV6.out (fun h => h))
      have b8 := below_alloc8 w7 (.cells #[sV v.space, sV v.name, .slice zA nA zc, .slice zkA nK zkc, sV v.text] TNo)
      have HV8 := hid (Blk.new (.cells #[sV v.space, sV v.name, .slice zA nA zc, .slice zkA nK zkc, sV v.text] TNo) w7)
      have HU8 := hid ((Off.of_below b8).blk HV7.out (fun h => h))
      have HB8 := hid (HB7.out.trans (b8.mono HB7.out.size))
      have HS := hid (same_any (w := w7.alloc (.cells #[sV v.space, sV v.name, .slice zA nA zc, .slice zkA nK zkc, sV v.text] TNo)) (by have := HCX.out; omega) (XR.below HY7.out b8) (XR.below HZ.out b8))
      unfold BoO at HS
      clear hz b7 b8 HY6 HV6 HB6 HB7 HV7 HY7 HZ HCX
      have q0 := HU8.out.cell 0
      have q1 := HU8.out.cell 1
      have q2 := HU8.out.cell 2
      have q3 := HU8.out.cell 3
      have q4 := HU8.out.cell 4
      have j0 := HV8.out.cell 0
      have j1 := HV8.out.cell 1
      have j2 := HV8.out.cell 2
      have j3 := HV8.out.cell 3
      have j4 := HV8.out.cell 4
      have hzz : (k == k) = true := by simp
      go_wp2_with fail
      refine HS.out.mono ?_
      rintro e w9 ⟨rfl, b9⟩
      go_wp2
      go_ret
      exact BoO.of rfl (HB8.out.trans (b9.mono HB8.out.size))
    ·have h24i : ¬ nb % 60 ≤ 24 := by have := HMO.out; omega
     by_cases hk71 : k = 71
     ·subst hk71
      clear HDP HPL
      as_aux_lemma =>
       obtain ⟨C3, w3, hcv, b3, hr3⟩ := conv_str8 V0 d
       rw [HND.out] at hcv
       have HB3 := hid (HB2.out.trans (b3.mono HB2.out.size))
       have HQ1 := hid (HP1.out w3 C3 _ HB3.out hr3)
       clear HP1 b3 hr3 HB2
       go_wp2_with fail
       refine HQ1.out.mono ?_
       clear HQ1
       rintro e w4 ⟨b4, y, rfl, hy⟩
       try simp only at hy
       have HY := hid hy
       obtain ⟨yA, yc, ykA, ykc, rfl⟩ := xr_one hy
       obtain ⟨nA, hnA⟩ : ∃ n, v.attrs.length = n := ⟨_, rfl⟩
       obtain ⟨nK, hnK⟩ : ∃ n, v.kids.length = n := ⟨_, rfl⟩
       rw [hnA, hnK] at HY ⊢
       have HNA := hid hnA
       have HNK := hid hnK
       have HB4 := hid (HB3.out.trans (b4.mono HB3.out.size))
       have b5 := below_alloc8 w4 (.cells #[sV v.space, sV v.name, .slice yA nA yc, .slice ykA nK ykc, sV v.text] TNo)
       have HV5 := hid (Blk.new (.cells #[sV v.space, sV v.name, .slice yA nA yc, .slice ykA nK ykc, sV v.text] TNo) w4)
       have HY5 := hid (HY.out.below b5)
       have HB5 := hid (HB4.out.trans (b5.mono HB4.out.size))
       obtain ⟨C6, w6, hcv6, b6, hr6⟩ := conv_str8 (w4.alloc (.cells #[sV v.space, sV v.name, .slice yA nA yc, .slice ykA nK ykc, sV v.text] TNo)) d
       rw [HND.out] at hcv6
       have hs6 : (w4.alloc (.cells #[sV v.space, sV v.name, .slice yA nA yc, .slice ykA nK ykc, sV v.text] TNo)).heap.size = w4.heap.size + 1 := Array.size_push ..
       rw [hs6] at hcv6 hr6
       have HV6 := hid ((Off.of_below b6).blk HV5.out (fun h => h))
       have HY6 := hid (HY5.out.below b6)
       have HB6 := hid (HB5.out.trans (b6.mono HB5.out.size))
       have HQ2 := hid (HP2.out w6 C6 _ hr6)
       clear hy hnA hnK b4 b5 b6 hr6 hs6 hcv HP2 HB3 HB4 HB5 HV5 HY5 HY
       go_wp2_with fail
       refine HQ2.out.mono ?_
       clear HQ2 hcv6
       rintro e w7 ⟨b7, zz, rfl, hz⟩
       try simp only at hz
       have HZ := hid hz
       obtain ⟨zA, zc, zkA, zkc, rfl⟩ := xr_one hz
       rw [HNA.out, HNK.out] at HZ ⊢
       have HB7 := hid (HB6.out.trans (b7.mono HB6.out.size))
       have HY7 := hid (XR.below HY6.out b7)
       have HV7 := hid ((Off.of_below b7).blk HV6.out (fun h => h))
       have b8 := below_alloc8 w7 (.cells #[sV v.space, sV v.name, .slice zA nA zc, .slice zkA nK zkc, sV v.text] TNo)
       have HV8 := hid (Blk.new (.cells #[sV v.space, sV v.name, .slice zA nA zc, .slice zkA nK zkc, sV v.text] TNo) w7)
       have HU8 := hid ((Off.of_below b8).blk HV7.out (fun h => h))
       have HB8 := hid (HB7.out.trans (b8.mono HB7.out.size))
       have HS := hid (same_any (w := w7.alloc (.cells #[sV v.space, sV v.name, .slice zA nA zc, .slice zkA nK zkc, sV v.text] TNo)) (by have := HCX.out; omega) (XR.below HY7.out b8) (XR.below HZ.out b8))
       unfold BoO at HS
       clear hz b7 b8 HY6 HV6 HB6 HB7 HV7 HY7 HZ HCX
       have q0 := HU8.out.cell 0
       have q1 := HU8.out.cell 1
       have q2 := HU8.out.cell 2
       have q3 := HU8.out.cell 3
       have q4 := HU8.out.cell 4
       have j0 := HV8.out.cell 0
       have j1 := HV8.out.cell 1
       have j2 := HV8.out.cell 2
       have j3 := HV8.out.cell 3
       have j4 := HV8.out.cell 4
       skip
       go_wp2_with fail
       refine HS.out.mono ?_
       rintro e w9 ⟨rfl, b9⟩
       go_wp2
       go_ret
       exact BoO.of rfl (HB8.out.trans (b9.mono HB8.out.size))
     ·have hpf : plainB s = false := by
       cases hp : plainB s with
       | false => rfl
       | true =>
        have := HDP.out (by omega) hp
        injection this with _ h2
        exact absurd h2 hk71
      rw [hpf] at HPL
      clear HDP hpf
      as_aux_lemma =>
       obtain ⟨C3, w3, hcv, b3, hr3⟩ := conv_str8 V0 d
       rw [HND.out] at hcv
       have HB3 := hid (HB2.out.trans (b3.mono HB2.out.size))
       have HQ1 := hid (HP1.out w3 C3 _ HB3.out hr3)
       clear HP1 b3 hr3 HB2
       go_wp2_with fail
       refine HQ1.out.mono ?_
       clear HQ1
       rintro e w4 ⟨b4, y, rfl, hy⟩
       try simp only at hy
       have HY := hid hy
       obtain ⟨yA, yc, ykA, ykc, rfl⟩ := xr_one hy
       obtain ⟨nA, hnA⟩ : ∃ n, v.attrs.length = n := ⟨_, rfl⟩
       obtain ⟨nK, hnK⟩ : ∃ n, v.kids.length = n := ⟨_, rfl⟩
       rw [hnA, hnK] at HY ⊢
       have HNA := hid hnA
       have HNK := hid hnK
       have HB4 := hid (HB3.out.trans (b4.mono HB3.out.size))
       have b5 := below_alloc8 w4 (.cells #[sV v.space, sV v.name, .slice yA nA yc, .slice ykA nK ykc, sV v.text] TNo)
       have HV5 := hid (Blk.new (.cells #[sV v.space, sV v.name, .slice yA nA yc, .slice ykA nK ykc, sV v.text] TNo) w4)
       have HY5 := hid (HY.out.below b5)
       have HB5 := hid (HB4.out.trans (b5.mono HB4.out.size))
       obtain ⟨C6, w6, hcv6, b6, hr6⟩ := conv_str8 (w4.alloc (.cells #[sV v.space, sV v.name, .slice yA nA yc, .slice ykA nK ykc, sV v.text] TNo)) d
       rw [HND.out] at hcv6
       have hs6 : (w4.alloc (.cells #[sV v.space, sV v.name, .slice yA nA yc, .slice ykA nK ykc, sV v.text] TNo)).heap.size = w4.heap.size + 1 := Array.size_push ..
       rw [hs6] at hcv6 hr6
       have HV6 := hid ((Off.of_below b6).blk HV5.out (fun h => h))
       have HY6 := hid (HY5.out.below b6)
       have HB6 := hid (HB5.out.trans (b6.mono HB5.out.size))
       have HQ2 := hid (HP2.out w6 C6 _ hr6)
       clear hy hnA hnK b4 b5 b6 hr6 hs6 hcv HP2 HB3 HB4 HB5 HV5 HY5 HY
       go_wp2_with fail
       refine HQ2.out.mono ?_
       clear HQ2 hcv6
       rintro e w7 ⟨b7, zz, rfl, hz⟩
       try simp only at hz
       have HZ := hid hz
       obtain ⟨zA, zc, zkA, zkc, rfl⟩ := xr_one hz
       rw [HNA.out, HNK.out] at HZ ⊢
       have HB7 := hid (HB6.out.trans (b7.mono HB6.out.size))
       have HY7 := hid (XR.below HY6.out b7)
       have HV7 := hid ((Off.of_below b7).blk HV6.out (fun h => h))
       have b8 := below_alloc8 w7 (.cells #[sV v.space, sV v.name, .slice zA nA zc, .slice zkA nK zkc, sV v.text] TNo)
       have HV8 := hid (Blk.new (.cells #[sV v.space, sV v.name, .slice zA nA zc, .slice zkA nK zkc, sV v.text] TNo) w7)
       have HU8 := hid ((Off.of_below b8).blk HV7.out (fun h => h))
       have HB8 := hid (HB7.out.trans (b8.mono HB7.out.size))
       have HS := hid (same_any (w := w7.alloc (.cells #[sV v.space, sV v.name, .slice zA nA zc, .slice zkA nK zkc, sV v.text] TNo)) (by have := HCX.out; omega) (XR.below HY7.out b8) (XR.below HZ.out b8))
       unfold BoO at HS
       clear hz b7 b8 HY6 HV6 HB6 HB7 HV7 HY7 HZ HCX
       have q0 := HU8.out.cell 0
       have q1 := HU8.out.cell 1
       have q2 := HU8.out.cell 2
       have q3 := HU8.out.cell 3
       have q4 := HU8.out.cell 4
       have j0 := HV8.out.cell 0
       have j1 := HV8.out.cell 1
       have j2 := HV8.out.cell 2
       have j3 := HV8.out.cell 3
       have j4 := HV8.out.cell 4
       have hzz : (k == k) = true := by simp
       go_wp2_with fail
       refine HS.out.mono ?_
       rintro e w9 ⟨rfl, b9⟩
       go_wp2_with fail
       refine (HPL.out _).mono ?_
       rintro e w10 ⟨rfl, b10⟩
       go_wp2
       go_ret
       exact BoO.of rfl ((HB8.out.trans (b9.mono HB8.out.size)).trans (b10.mono (HB8.out.trans (b9.mono HB8.out.size)).size))
end Go.Proofs.YtklcjimmbkpbdaaGreatDoor
