/-
  The law JsonPrints: what is right is printed, and reads back as itself; what is not right is told. Conditions: the library's two tables hold what they are laid with.
-/
import Derived.Test.YtchgelfomnbpaaaDoorZ41
import Derived.Test.YtchgelfomnbpaaaDoorZ43
import Derived.Test.YtchgelfomnbpaaaDoorZ45
import Derived.Test.YtchgelfomnbpaaaDoorZ48
import Derived.Test.YtchgelfomnbpaaaDoorZ50
namespace Go.Proofs.YtchgelfomnbpaaaDoor
open Go.RowKit
open Go.Lib

set_option maxRecDepth 100000 in
set_option maxHeartbeats 4000000 in
theorem law_prints {T : Nat → Prop} {v : JV} {x : Value} {w : World} (hJ : JR w T v x) (hT : Tabs w) :
    Calls Tryd.prog 5 #[x] w fun e w' => e = .returned (.bool true) ∧ Below w.heap.size w w' := by
  have HV := Lib.hid hJ
  obtain ⟨k, S, nA, nn, nc, lA, n, lc, rfl⟩ : ∃ k S nA nn nc lA n lc, x = .agg #[.int .i64 k, .string S, .slice nA nn nc, .slice lA n lc] := by
    obtain ⟨k, t, ns, l⟩ := v
    rw [JR] at hJ
    obtain ⟨nA, nc, lA, lc, e, _, _⟩ := hJ
    exact ⟨_, _, _, _, _, _, _, _, e⟩
  obtain ⟨B, hB⟩ : ∃ B, w.heap.size = B := ⟨_, rfl⟩
  obtain ⟨w1, hw1⟩ : ∃ W, w.alloc (.cells #[.int .i64 k, .string S, .slice nA nn nc, .slice lA n lc] TJ) = W := ⟨_, rfl⟩
  have HB1 : Hid (Below w.heap.size w w1) := Lib.hid (by rw [← hw1]; exact (Below.refl _ _).alloc (Nat.le_refl _) _)
  have HX1 : Hid (J4 B (.int .i64 k) (.string S) (.slice nA nn nc) (.slice lA n lc) w1) := Lib.hid (by rw [← hw1, ← hB]; exact Blk.new _ w)
  have HT := Lib.hid (fun W (h : Below w.heap.size w W) => (hT.off (Off.of_below h) (fun h => h) (fun h => h)))
  have HF := Lib.hid (first_any w1 (HT.out _ HB1.out))
  clear hJ hT
  go_enter Tryd.func5, Tryd.ntmps5
  go_wp2_with fail
  refine HF.out.mono ?_
  clear HF hw1 hB
  rintro e w2 ⟨rfl, b2⟩
  have HX2 := Lib.hid (HX1.out.below b2)
  have HB2 := Lib.hid (HB1.out.trans (b2.mono HB1.out.size))
  have HZ := Lib.hid (rsize_any T 40 40 v _ w2 (Nat.le_refl _) rfl (HV.out.below HB2.out))
  have e0 := HX2.out.c0
  have e1 := HX2.out.c1
  have e2 := HX2.out.c2
  have e3 := HX2.out.c3
  clear b2 HX1 HB1
  go_wp2_with fail
  refine HZ.out.mono ?_
  clear HZ e0 e1 e2 e3
  rintro e w3 ⟨⟨y, rfl, hy0, hy1, hyw⟩, b3⟩
  have HX3 := Lib.hid (HX2.out.below b3)
  have HB3 := Lib.hid (HB2.out.trans (b3.mono HB2.out.size))
  have HYW := Lib.hid hyw
  clear b3 hyw HX2 HB2
  by_cases hbig : 5000 < y
  · go_wp2
    go_ret
    exact ⟨rfl, HB3.out⟩
  · have HW : Hid (wJ v ≤ 5000) := Lib.hid (by have := HYW.out (by omega); omega)
    clear HYW hy0 hy1
    have HP := Lib.hid (print_any (HV.out.below HB3.out) (by have := HW.out; omega) (HT.out _ HB3.out))
    have e0 := HX3.out.c0
    have e1 := HX3.out.c1
    have e2 := HX3.out.c2
    have e3 := HX3.out.c3
    go_wp2_with fail
    refine HP.out.mono ?_
    clear HP e0 e1 e2 e3
    rintro e w4 ⟨rfl, b4⟩
    have HX4 := Lib.hid (HX3.out.below b4)
    have HB4 := Lib.hid (HB3.out.trans (b4.mono HB3.out.size))
    have HR := Lib.hid (rright_all 100000 (Nat.le_refl _) T v _ 0 0 w4 (by have := HW.out; omega) (HV.out.below HB4.out) rfl (by decide))
    have e0 := HX4.out.c0
    have e1 := HX4.out.c1
    have e2 := HX4.out.c2
    have e3 := HX4.out.c3
    clear b4 HX3 HB3
    obtain ⟨q, hq⟩ : ∃ q, rightJ 0 v = q := ⟨_, rfl⟩
    rw [hq] at HR
    have HQ := Lib.hid hq
    unfold prS prE
    rw [hq]
    clear hq
    cases q with
    | false =>
      rw [if_neg (by decide), if_neg (by decide)]
      have hbe : bs [] = ⟨#[]⟩ := rfl
      rw [hbe]
      clear hbe
      go_wp2_with (go_at_call 17; (with_reducible refine HR.out.mono ?_); rintro e w5 ⟨rfl, b5⟩; have HB5 := Lib.hid (HB4.out.trans (b5.mono HB4.out.size)); clear b5)
      go_ret
      exact ⟨rfl, HB5.out⟩
    | true =>
      rw [if_pos rfl, if_pos rfl]
      have HPL : Hid ((printJ v).length ≤ 160000) := Lib.hid (by have h1 := print_len v; have h2 := HW.out; omega)
      obtain ⟨L, hL⟩ : ∃ L, printJ v = L := ⟨_, rfl⟩
      have HL := Lib.hid hL
      rw [hL] at HPL ⊢
      go_wp2_with fail
      refine HR.out.mono ?_
      clear HR e0 e1 e2 e3 hL
      rintro e w5 ⟨rfl, b5⟩
      have HX5 := Lib.hid (HX4.out.below b5)
      have HB5 := Lib.hid (HB4.out.trans (b5.mono HB4.out.size))
      clear b5 HX4 HB4
      obtain ⟨C6, w6, hcv, b6, hr6⟩ := conv_str7 w5 L
      have HX6 := Lib.hid (HX5.out.below b6)
      have HB6 := Lib.hid (HB5.out.trans (b6.mono HB5.out.size))
      obtain ⟨p, hp⟩ : ∃ p, parseJ L = p := ⟨_, rfl⟩
      have P1 := parse_any (c := C6) (n := L.length) rfl hr6 (HT.out _ HB6.out)
      rw [hp] at P1
      have HPE := Lib.hid hp
      obtain ⟨Q, hQ⟩ : ∃ Q, bs L = Q := ⟨_, rfl⟩
      have HQS : Hid (Q.size = L.length) := Lib.hid (by rw [← hQ, bs_size])
      obtain ⟨n6, hn6⟩ : ∃ m, L.length = m := ⟨_, rfl⟩
      have HN6 := Lib.hid hn6
      rw [hn6] at P1 hcv
      rw [hQ] at hcv ⊢
      have HQQ := Lib.hid hQ
      have HP1 := Lib.hid P1
      clear P1 b6 hr6 hp hn6 hQ HX5 HB5
      go_wp2_with fail
      refine HP1.out.mono ?_
      clear HP1 hcv
      rintro e w7 hx
      obtain ⟨b7, x0, x1, x2, x3, rfl, hone7, hj7⟩ := hx.at
      have hM7 : JZ w7.heap.size (w7.alloc (.cells #[.int .i64 0, .string ⟨#[]⟩, .slice none 0 0, .slice none 0 0] 28)) := Blk.new _ w7
      have HJ7 := Lib.hid hj7
      have HX7 := Lib.hid (HX6.out.below b7)
      have HB7 := Lib.hid (HB6.out.trans (b7.mono HB6.out.size))
      obtain ⟨z1, hz1⟩ : ∃ z, exE p = z := ⟨_, rfl⟩
      rw [hz1]
      have HZ1 := Lib.hid hz1
      clear hx b7 hj7 hz1 HX6 HB6
      go_upto_region 9 with (guard_target =~ Go.wpList _ _ _ ({ dst := none, op := Go.Op.store 28 _ _, type := _, pos := _, after := _, guard := none } :: _) _ _; refine st4 rfl rfl hone7 hM7 ?_)
      intro w8 hM8 o8
      have b8 := var4 o8
      have HX8 := Lib.hid (HX7.out.below b8)
      have HJ8 := Lib.hid (HJ7.out.below b8)
      have HB8 := Lib.hid (HB7.out.trans (b8.mono HB7.out.size))
      obtain ⟨M, hM⟩ : ∃ M, w7.heap.size = M := ⟨_, rfl⟩
      rw [hM] at hM8 ⊢
      have HM8 := Lib.hid hM8
      have HPR := Lib.hid (rprint_all 100000 (Nat.le_refl _) T v _ 0 w8 (by have := HW.out; omega) HQ.out (HV.out.below HB8.out))
      rw [HL.out, HQQ.out] at HPR
      have e0 := HX8.out.c0
      have e1 := HX8.out.c1
      have e2 := HX8.out.c2
      have e3 := HX8.out.c3
      have hqq : (Q.toList == Q.toList) = true := by simp
      clear hM7 o8 b8 hM8 hM HX7 HJ7 HB7
      by_cases hlong : 65536 < n6
      · have hli : (65536 : Int) < (Q.size : Int) := by have := HQS.out; have := HN6.out; omega
        go_wp2_with (go_at_call 18; (with_reducible refine HPR.out.mono ?_); rintro e w9 ⟨rfl, b9⟩; have HB9 := Lib.hid (HB8.out.trans (b9.mono HB8.out.size)); clear b9)
        go_ret
        exact ⟨rfl, HB9.out⟩
      · have hli : ¬ (65536 : Int) < (Q.size : Int) := by have := HQS.out; have := HN6.out; omega
        have HPO : Hid (p = .ok v) := Lib.hid (by rw [← HPE.out, ← HL.out]; exact parse_print HQ.out (by rw [HL.out]; have := HN6.out; omega))
        have hz0 : z1 = 0 := by rw [← HZ1.out, HPO.out]; rfl
        subst hz0
        rw [show exV p = v by rw [HPO.out]; rfl] at HJ8
        have HS : Hid (∀ W, Below w8.heap.size w8 W → Calls Tryd.prog 12 #[.agg #[x0, x1, x2, x3], .agg #[.int .i64 k, .string S, .slice nA nn nc, .slice lA n lc]] W fun e w' => e = .returned (.bool true) ∧ Below W.heap.size W w') := Lib.hid (fun W h => rsame_any _ T 5000 v _ _ W (by have := size_w v; have := HW.out; omega) (by decide) (HJ8.out.below h) ((HV.out.below HB8.out).below h))
        go_wp2_with (first
          | (go_at_call 18; (with_reducible refine HPR.out.mono ?_); rintro e w9 ⟨rfl, b9⟩; have HB9 := Lib.hid (HB8.out.trans (b9.mono HB8.out.size)); have HK9 := Lib.hid b9; have g0 := (HX8.out.below b9).c0; have g1 := (HX8.out.below b9).c1; have g2 := (HX8.out.below b9).c2; have g3 := (HX8.out.below b9).c3; have m0 := (HM8.out.below b9).c0; have m1 := (HM8.out.below b9).c1; have m2 := (HM8.out.below b9).c2; have m3 := (HM8.out.below b9).c3; clear b9)
          | (go_at_call 12; (with_reducible refine (HS.out _ HK9.out).mono ?_); rintro e w10 ⟨rfl, b10⟩; have HB10 := Lib.hid (HB9.out.trans (b10.mono HB9.out.size)); clear b10))
        go_ret
        exact ⟨rfl, HB10.out⟩
end Go.Proofs.YtchgelfomnbpaaaDoor
