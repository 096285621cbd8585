/-
  The document's Parse of JSON. Conditions: none.
-/
import Derived.Test.YtchgelfomnbpaaaDoorZ48
namespace Go.Proofs.YtchgelfomnbpaaaDoor
open Go.RowKit
open Go.Lib

set_option maxRecDepth 100000 in
set_option maxHeartbeats 4000000 in
theorem rparse_any {b : Bt} {A : Option Addr} {n c : Nat} {w : World} (hn : b.length = n) (hb : RB w A b) :
    Calls Tryd.prog 11 #[.slice A n c] w (XOut (fun _ => False) (parseJ b) w) := by
  have hR : JZ w.heap.size (w.alloc (.cells #[.int .i64 0, .string ⟨#[]⟩, .slice none 0 0, .slice none 0 0] 28)) := Blk.new _ w
  by_cases hbig : 65536 < n
  · have hbi : (65536 : Int) < (n : Int) := by omega
    have HE := Lib.hid (parse_big (by rw [hn]; exact hbig))
    clear hb hn
    go_enter Tryd.func11, Tryd.ntmps11
    go_wp2_with (guard_target =~ Go.wpList _ _ _ ({ dst := none, op := Go.Op.store 28 _ _, type := _, pos := _, after := _, guard := none } :: _) _ _; refine st4 rfl rfl ⟨rfl, rfl, rfl, rfl⟩ hR ?_)
    intro wz hz oz
    have HO : Hid (Off (fun _ => False) w wz) := Lib.hid ((((Off.of_below ((Below.refl _ _).alloc (Nat.le_refl _) _))).trans oz (fun b h => .inr (by omega))))
    clear hR oz
    go_wp2
    exact bodyPost_ret (by simp [results, Tryd.results11, go_sem, J4.c0 hz, J4.c1 hz, J4.c2 hz, J4.c3 hz]) rfl (XOut.err HE.out HO.out)
  · have hbi : ¬ (65536 : Int) < (n : Int) := by omega
    have HE := Lib.hid (parse_small (by rw [hn]; exact hbig))
    have B0 : Below w.heap.size w (w.alloc (.cells #[.int .i64 0, .string ⟨#[]⟩, .slice none 0 0, .slice none 0 0] 28)) := (Below.refl _ _).alloc (Nat.le_refl _) _
    have hcv := conv_slice7 c hn (hb.below B0)
    obtain ⟨w1, hw1⟩ : ∃ V, w.alloc (.cells #[.int .i64 0, .string ⟨#[]⟩, .slice none 0 0, .slice none 0 0] 28) = V := ⟨_, rfl⟩
    have hs1 : w1.heap.size = w.heap.size + 1 := by rw [← hw1]; simp
    rw [hw1] at hcv B0 hR
    have hTS : TS w1.heap.size b 0 (w1.alloc (.cells #[.string (bs b), .int .i64 0] TT)) := Blk.new _ w1
    rw [hs1] at hTS
    have b2 : Below w1.heap.size w1 (w1.alloc (.cells #[.string (bs b), .int .i64 0] TT)) := (Below.refl _ _).alloc (Nat.le_refl _) _
    have HR2 := Lib.hid (hR.below b2)
    have HB2 := Lib.hid (B0.trans (b2.mono B0.size))
    have HS1 := Lib.hid hs1
    have HC := Lib.hid (dval_all b.length (w.heap.size + 1) 0 0 b _ hTS (Nat.zero_le _) (by omega) (by omega) (by omega))
    have HBL : Hid (b.length ≤ 65536) := Lib.hid (by omega)
    have HS2 : Hid (w.heap.size + 1 < (w1.alloc (.cells #[.string (bs b), .int .i64 0] TT)).heap.size) := Lib.hid hTS.lt
    clear hTS hR b2 B0 hb hs1
    subst hw1
    go_enter Tryd.func11, Tryd.ntmps11
    go_wp2_with fail
    refine HC.out.mono ?_
    clear HC
    generalize (w.alloc (.cells #[.int .i64 0, .string ⟨#[]⟩, .slice none 0 0, .slice none 0 0] 28)).alloc (.cells #[.string (bs b), .int .i64 0] TT) = w2 at *
    obtain ⟨X, hX⟩ : ∃ X, w.heap.size + 1 = X := ⟨_, rfl⟩
    rw [hX] at HS2 ⊢
    have HX := Lib.hid hX
    clear hcv hX
    rintro e w3 ⟨o3, ⟨v, x, k', hv, hk', rfl, hj, hT⟩ | ⟨z, hz0, hz1, rfl⟩⟩
    · obtain ⟨x0, x1, x2, x3, rfl, hone⟩ := jr_one hj
      have hM3 : JZ w3.heap.size (w3.alloc (.cells #[.int .i64 0, .string ⟨#[]⟩, .slice none 0 0, .slice none 0 0] 28)) := Blk.new _ w3
      have hs3 := o3.size
      go_upto_region 5 with (guard_target =~ Go.wpList _ _ _ ({ dst := none, op := Go.Op.store 28 _ _, type := _, pos := _, after := _, guard := none } :: _) _ _; refine st4 rfl rfl hone hM3 ?_)
      intro w4 hM4 o4
      have oA : Off (fun b => b = w3.heap.size) w3 w4 := ((Off.of_below ((Below.refl _ _).alloc (Nat.le_refl _) _)).mono (fun _ h => h.elim)).trans o4 (fun _ h => .inl h)
      have hT4 := hT.off oA (fun e => by have := hT.lt; omega)
      have HR4 := Lib.hid ((HR2.out.off o3 (fun e => by have := HX.out; omega)).off oA (fun e => by have := HR2.out.lt; omega))
      have HO4 : Hid (Off (fun _ => False) w w4) := Lib.hid (((Off.of_below HB2.out).trans o3 (fun b h => .inr (by have := HX.out; omega))).trans oA (fun b h => .inr (by have := HB2.out.size; omega)))
      have HJ4 : Hid (JR w4 (fun b => w2.heap.size ≤ b ∧ b < w3.heap.size) v (.agg #[x0, x1, x2, x3])) := Lib.hid (JR.off oA (fun b hb e => by omega) v _ hj)
      obtain ⟨M, hM⟩ : ∃ M, w3.heap.size = M := ⟨_, rfl⟩
      rw [hM] at hM4 HJ4 hs3 ⊢
      have HM4 := Lib.hid hM4
      have HMS : Hid (w2.heap.size ≤ M ∧ M < w4.heap.size) := Lib.hid ⟨hs3, hM4.lt⟩
      have HBL2 := Lib.hid (tblanks_any hT4 hk' (by have := HBL.out; omega))
      have HV := Lib.hid hv
      clear hM3 o4 oA hT hT4 hj hs3 hM hM4 hk' hv o3
      go_wp2_with fail
      refine HBL2.out.mono ?_
      clear HBL2
      rintro e w5 ⟨rfl, k5, _, hk5, hd5, hT5, o5⟩
      have HM5 := Lib.hid (HM4.out.off o5 (fun e => by have := HMS.out; have := HS2.out; omega))
      have HR5 := Lib.hid (HR4.out.off o5 (fun e => by have := HX.out; omega))
      have HO5 : Hid (Off (fun _ => False) w w5) := Lib.hid (HO4.out.trans o5 (fun b h => .inr (by have := HX.out; omega)))
      have HJ5 : Hid (JR w5 (fun b => w2.heap.size ≤ b ∧ b < M) v (.agg #[x0, x1, x2, x3])) := Lib.hid (JR.off o5 (fun b hb e => by have := HS2.out; omega) v _ HJ4.out)
      have HS5 : Hid (M < w5.heap.size) := Lib.hid (by have := o5.size; have := HMS.out; omega)
      have HP : Hid (exW b = if k5 < b.length then .error 70 else .ok v) := Lib.hid (by
        unfold exW
        rw [show valX 0 b = .ok (v, b.drop k') from HV.out]
        dsimp only
        rw [← hd5]
        by_cases hl : k5 < b.length
        · rw [if_pos hl, if_neg (fun e => by have := congrArg List.length e; rw [List.length_drop, List.length_nil] at this; omega)]
        · rw [if_neg hl, if_pos (List.drop_of_length_le (by omega))])
      have e0 := hT5.c0
      have e1 := hT5.c1
      have hsz : (bs b).size = b.length := bs_size b
      have HT5 := Lib.hid hT5
      clear HM4 HR4 HO4 HJ4 HV o5 hd5 hT5
      go_upto_region 8 with fail
      go_quiet (fail)
      obtain ⟨W, hW⟩ : ∃ V, w5.drewN nq = V := ⟨_, rfl⟩
      have bW : Below w5.heap.size w5 (w5.drewN nq) := below_drewN (Below.refl _ _) nq
      have hM6 := HM5.out.below bW
      have hR6 := HR5.out.below bW
      have HJ6 := Lib.hid (HJ5.out.below bW)
      have HO6 : Hid (Off (fun _ => False) w (w5.drewN nq)) := Lib.hid (HO5.out.trans (Off.of_below bW) (fun _ h => h.elim))
      have HS6 : Hid (M < (w5.drewN nq).heap.size) := Lib.hid (by have := bW.size; have := HS5.out; omega)
      rw [hW] at hM6 hR6 HJ6 HO6 HS6 ⊢
      clear e0 e1 hW bW HM5 HR5 HJ5 HO5 HT5
      by_cases hl : k5 < b.length
      · have hli : (k5 : Int) < (b.length : Int) := by omega
        have HQ : Hid (exW b = .error 70) := Lib.hid (by rw [HP.out, if_pos hl])
        clear HP
        go_wp2_with (guard_target =~ Go.wpList _ _ _ ({ dst := none, op := Go.Op.store 28 _ _, type := _, pos := _, after := _, guard := none } :: _) _ _; refine st4 rfl rfl ⟨rfl, rfl, rfl, rfl⟩ hR6 ?_)
        intro wz hz oz
        have HO : Hid (Off (fun _ => False) w wz) := Lib.hid (HO6.out.trans oz (fun b h => .inr (by omega)))
        clear hR6 hM6 oz
        go_wp2
        exact bodyPost_ret (by simp [results, Tryd.results11, go_sem, J4.c0 hz, J4.c1 hz, J4.c2 hz, J4.c3 hz]) rfl (XOut.err (HE.out.trans HQ.out) HO.out)
      · have hli : ¬ (k5 : Int) < (b.length : Int) := by omega
        have HQ : Hid (exW b = .ok v) := Lib.hid (by rw [HP.out, if_neg hl])
        clear HP
        go_wp2_with (first
          | (guard_target =~ Go.wpList _ _ _ ({ dst := _, op := Go.Op.load 28 _, type := _, pos := _, after := _, guard := none } :: _) _ _; refine ld4 rfl hM6 ?_)
          | (guard_target =~ Go.wpList _ _ _ ({ dst := none, op := Go.Op.store 28 _ _, type := _, pos := _, after := _, guard := none } :: _) _ _; refine st4 rfl rfl hone hR6 ?_))
        intro wz hz oz
        have HO : Hid (Off (fun _ => False) w wz) := Lib.hid (HO6.out.trans oz (fun b h => .inr (by omega)))
        have HJZ : Hid (JR wz (fun b => w.heap.size ≤ b ∧ b < wz.heap.size) v (.agg #[x0, x1, x2, x3])) := Lib.hid (JR.mono (fun b hb => ⟨by have := HB2.out.size; omega, by have := oz.size; have := HS6.out; omega⟩) _ _ (JR.off oz (fun b hb e => by have := HS2.out; have := HX.out; omega) _ _ HJ6.out))
        clear hR6 hM6 oz
        go_wp2
        exact bodyPost_ret (by simp [results, Tryd.results11, go_sem, J4.c0 hz, J4.c1 hz, J4.c2 hz, J4.c3 hz]) rfl (XOut.good (HE.out.trans HQ.out) HO.out HJZ.out hone)
    · have hM3 : JZ w3.heap.size (w3.alloc (.cells #[.int .i64 0, .string ⟨#[]⟩, .slice none 0 0, .slice none 0 0] 28)) := Blk.new _ w3
      have hs3 := o3.size
      have hzb : (z == 0) = false := by rw [beq_eq_false_iff_ne]; exact hz1
      have HQ : Hid (exW b = .error z) := Lib.hid (by unfold exW; rw [show valX 0 b = .error z from hz0])
      go_upto_region 5 with (guard_target =~ Go.wpList _ _ _ ({ dst := none, op := Go.Op.store 28 _ _, type := _, pos := _, after := _, guard := none } :: _) _ _; refine st4 rfl rfl ⟨rfl, rfl, rfl, rfl⟩ hM3 ?_)
      intro w4 hM4 o4
      have oA : Off (fun b => b = w3.heap.size) w3 w4 := ((Off.of_below ((Below.refl _ _).alloc (Nat.le_refl _) _)).mono (fun _ h => h.elim)).trans o4 (fun _ h => .inl h)
      have hR4 := (HR2.out.off o3 (fun e => by have := HX.out; omega)).off oA (fun e => by have := HR2.out.lt; omega)
      have HO4 : Hid (Off (fun _ => False) w w4) := Lib.hid (((Off.of_below HB2.out).trans o3 (fun b h => .inr (by have := HX.out; omega))).trans oA (fun b h => .inr (by have := HB2.out.size; omega)))
      clear hM3 hM4 o4 oA o3 hs3 hz0
      go_wp2_with (guard_target =~ Go.wpList _ _ _ ({ dst := none, op := Go.Op.store 28 _ _, type := _, pos := _, after := _, guard := none } :: _) _ _; refine st4 rfl rfl ⟨rfl, rfl, rfl, rfl⟩ hR4 ?_)
      intro wz hz oz
      have HO : Hid (Off (fun _ => False) w wz) := Lib.hid (HO4.out.trans oz (fun b h => .inr (by omega)))
      clear hR4 oz
      go_wp2
      exact bodyPost_ret (by simp [results, Tryd.results11, go_sem, J4.c0 hz, J4.c1 hz, J4.c2 hz, J4.c3 hz]) rfl (XOut.err (HE.out.trans HQ.out) HO.out)
end Go.Proofs.YtchgelfomnbpaaaDoor
