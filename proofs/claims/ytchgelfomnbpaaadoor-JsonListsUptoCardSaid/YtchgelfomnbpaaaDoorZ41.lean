/-
  The law JsonBlanks: blanks around a value change nothing; a second value behind it is wrong. Conditions: the library's two tables hold what they are laid with.
-/
import Derived.Test.YtchgelfomnbpaaaDoorZ39
import Derived.Test.YtchgelfomnbpaaaDoorZ26
import Derived.Test.YtchgelfomnbpaaaDoorZ40
import Derived.Lib.ConvBytes
namespace Go.Proofs.YtchgelfomnbpaaaDoor
open Go.RowKit
open Go.Lib

theorem bs_app (a b : Bt) : bs a ++ bs b = bs (a ++ b) := by
  apply ByteArray.ext
  simp [bs]
theorem add7 (a b : Bt) (h : a.length + b.length ≤ 9223372036854775807) (r : Bt) (hr : a ++ b = r) (W : World) : (Op.stringOp .add (bs a) (bs b)).run Tryd.prog W = .ok (.string (bs r)) W := by
  rw [run_string_add_sum W _ _ (by rw [bs_size, bs_size]; exact h), bs_app, hr]
theorem conv_str7 (w : World) (l : Bt) : ∃ C W3, (convert 9 22 (.string (bs l))).run Tryd.prog w = .ok (.slice (some ⟨w.heap.size, 0, none⟩) l.length C) W3 ∧ Below w.heap.size w W3 ∧ RB W3 (some ⟨w.heap.size, 0, none⟩) l := by
  have h := Lib.run_convert_string_bytes (P := Tryd.prog) w 9 22 5 (bs l) Tryd.underlying9 Tryd.underlying22 Tryd.underlying5
  rw [bs_size] at h
  refine ⟨_, _, h, ⟨rfl, rfl, rfl, by rw [bytesWorld_size]; omega, fun k hk => bytesWorld_at_old w _ _ k hk⟩, fun _ => ⟨w.heap.size, 0, rfl, by rw [bytesWorld_size]; omega, fun j hj => ?_⟩⟩
  rw [Nat.zero_add, bytesWorld_cell w _ _ j (by rw [bs_size]; exact hj), bs_list]
  rfl
def blankS : Bt := [32, 9, 10, 13]
theorem blank_at (j : Nat) : ∃ y : UInt8, isBl y = true ∧ ∀ W, (Instr.index 9 (.string ⟨#[32, 9, 10, 13]⟩) (.int .i64 ((j : Int) % 4))).run Tryd.prog W = .ok (.int .u8 (y.toNat : Int)) W := by
  have h4 : j % 4 < 4 := Nat.mod_lt _ (by decide)
  refine ⟨blankS[j % 4]'h4, ?_, fun W => ?_⟩
  · exact (by decide : ∀ i : Fin 4, isBl (blankS[i.val]'i.isLt) = true) ⟨j % 4, h4⟩
  · have := byte_run blankS (j % 4) _ h4 rfl W
    rw [show ((j : Int) % 4) = ((j % 4 : Nat) : Int) by omega]
    exact this
set_option maxRecDepth 100000 in
set_option maxHeartbeats 4000000 in
theorem law_blanks {A : Option Addr} {n c : Nat} {b : Bt} {nb : Int} {w : World} (hn : b.length = n) (hb : RB w A b) (hT : Tabs w) (h0 : 0 ≤ nb) (h1 : nb ≤ 255) :
    Calls Tryd.prog 7 #[.slice A n c, .int .u8 nb] w fun e w' => e = .returned (.bool true) ∧ Below w.heap.size w w' := by
  have HF := Lib.hid (first_any w hT)
  have HN := Lib.hid hn
  have HB := Lib.hid hb
  have HT := Lib.hid hT
  clear hn hb hT
  by_cases hbig : 3000 < n
  · have hbi : (3000 : Int) < (n : Int) := by omega
    go_enter Tryd.func7, Tryd.ntmps7
    go_wp2_with fail
    refine HF.out.mono ?_
    rintro e w1 ⟨rfl, b1⟩
    go_wp2
    go_ret
    exact ⟨rfl, b1⟩
  · have hbi : ¬ (3000 : Int) < (n : Int) := by omega
    obtain ⟨m, hm⟩ : ∃ m : Nat, nb % 20 = (m : Int) := ⟨(nb % 20).toNat, by omega⟩
    have hm20 : m < 20 := by omega
    have HM := Lib.hid hm
    clear hm
    go_enter Tryd.func7, Tryd.ntmps7
    go_wp2_with fail
    refine HF.out.mono ?_
    rintro e w1 ⟨rfl, b1⟩
    have HB1 := Lib.hid b1
    clear HF b1
    go_wp2
    go_loopw [5, 21] (fun s i wr => ∃ (j : Nat) (l : Bt), j ≤ m ∧ i = .int .i64 j ∧ s = .string (bs l) ∧ Hid (AllBl l ∧ l.length = j) ∧ Hid (Below w.heap.size w wr)) (fun _ i _ => m - (RowKit.intOf i).toNat)
    case atStart => exact ⟨0, [], Nat.zero_le _, rfl, rfl, Lib.hid ⟨fun _ h => (by cases h), rfl⟩, HB1⟩
    case round =>
      clear HB1
      obtain ⟨j, l, hj, rfl, rfl, HL, HB2⟩ := hrel
      by_cases hjm : j < m
      · have hlt : (j : Int) < nb % 20 := by have := HM.out; omega
        obtain ⟨y, hy, hix⟩ := blank_at j
        obtain ⟨z, hz⟩ : ∃ z : Int, (y.toNat : Int) = z := ⟨_, rfl⟩
        have hcv : (convert 22 9 (.slice (some ⟨wr.heap.size, 0, none⟩) 1 1)).run Tryd.prog (wr.alloc (.cells #[.int .u8 z] 5)) = .ok (.string (bs [y])) (wr.alloc (.cells #[.int .u8 z] 5)) := by
          have h := conv_slice7 (w := wr.alloc (.cells (cellsB [y]).toArray 5 (0, 0))) (n := 1) 1 rfl (const_rb wr [y] (0, 0))
          rw [show (cellsB [y]).toArray = #[.int .u8 z] by rw [← hz]; rfl] at h
          exact h
        have hadd := add7 l [y] (by have := HL.out.2; simp; omega) _ rfl
        have HL2 : Hid (AllBl (l ++ [y]) ∧ (l ++ [y]).length = j + 1) := Lib.hid ⟨fun c hc => by
          rcases List.mem_append.1 hc with h | h
          · exact HL.out.1 c h
          · rw [List.mem_singleton.1 h]; exact hy, by rw [List.length_append, HL.out.2]; rfl⟩
        rw [hz] at hix
        obtain ⟨l2, hl2⟩ : ∃ x, l ++ [y] = x := ⟨_, rfl⟩
        rw [hl2] at hadd HL2
        have HB3 : Hid (Below w.heap.size w (wr.alloc (.cells #[.int .u8 z] 5))) := Lib.hid (HB2.out.trans (((Below.refl _ _).alloc (Nat.le_refl _) _).mono HB2.out.size))
        clear hy hz hl2
        go_wp2
        exact ⟨⟨j + 1, l2, by omega, rfl, rfl, HL2, HB3⟩, by show m - ((j : Int) + 1).toNat < m - (j : Int).toNat; omega⟩
      · have hge : ¬ (j : Int) < nb % 20 := by have := HM.out; omega
        have HLB : Hid (l.length ≤ 20) := Lib.hid (by have := HL.out.2; omega)
        obtain ⟨p, hp⟩ : ∃ p, parseJ b = p := ⟨_, rfl⟩
        obtain ⟨V0, hV0⟩ : ∃ V, V = wr := ⟨_, rfl⟩
        subst hV0
        have P1 := parse_any (c := c) HN.out (HB.out.below HB2.out) (HT.out.off (Off.of_below HB2.out) (fun h => h) (fun h => h))
        rw [hp] at P1
        have HP1 := Lib.hid P1
        have HP := Lib.hid hp
        clear P1 hp
        go_wp2_with fail
        refine HP1.out.mono ?_
        clear HP1
        rintro e w2 hx
        obtain ⟨b2, x0, x1, x2, x3, rfl, hone, hj2⟩ := hx.at
        have hM2 : JZ w2.heap.size (w2.alloc (.cells #[.int .i64 0, .string ⟨#[]⟩, .slice none 0 0, .slice none 0 0] 28)) := Blk.new _ w2
        have HJ2 := Lib.hid hj2
        have HB4 := Lib.hid (HB2.out.trans (b2.mono HB2.out.size))
        clear hx b2 hj2
        obtain ⟨z1, hz1⟩ : ∃ z, exE p = z := ⟨_, rfl⟩
        rw [hz1]
        have HZ1 := Lib.hid hz1
        clear hz1
        go_upto_region 12 with (guard_target =~ Go.wpList _ _ _ ({ dst := none, op := Go.Op.store 28 _ _, type := _, pos := _, after := _, guard := none } :: _) _ _; refine st4 rfl rfl hone hM2 ?_)
        intro w3 hM3 o3
        have b3 := var4 o3
        have HJ3 := Lib.hid (HJ2.out.below b3)
        have HB5 := Lib.hid (HB4.out.trans (b3.mono HB4.out.size))
        obtain ⟨M, hM⟩ : ∃ M, w2.heap.size = M := ⟨_, rfl⟩
        rw [hM] at hM3 ⊢
        have HM3 := Lib.hid hM3
        clear hM2 o3 b3 hM hM3 HJ2 HB4
        have hcb := conv_slice7 c HN.out (HB.out.below HB5.out)
        have ha1 := add7 l b (by have := HLB.out; have := HN.out; omega) _ rfl
        have ha2 := add7 (l ++ b) l (by have := HLB.out; have := HN.out; simp; omega) _ rfl
        obtain ⟨C4, w4, hcv, b4, hr4⟩ := conv_str7 w3 (l ++ b ++ l)
        have HLEN : Hid ((l ++ b ++ l).length ≤ 4000) := Lib.hid (by have := HLB.out; have := HN.out; simp; omega)
        have HPB : Hid (parseJ (l ++ b ++ l) = p) := Lib.hid (by rw [← HP.out]; exact parse_blanks HL.out.1 HL.out.1 (by have := HLEN.out; omega))
        have P2 := parse_any (c := C4) (n := (l ++ b ++ l).length) rfl hr4 ((HT.out.off (Off.of_below HB5.out) (fun h => h) (fun h => h)).off (Off.of_below b4) (fun h => h) (fun h => h))
        rw [HPB.out] at P2
        have HP2 := Lib.hid P2
        have HM4 := Lib.hid (HM3.out.below b4)
        have HJ4 := Lib.hid (HJ3.out.below b4)
        have HB6 := Lib.hid (HB5.out.trans (b4.mono HB5.out.size))
        obtain ⟨r3, hr3⟩ : ∃ x, l ++ b ++ l = x := ⟨_, rfl⟩
        obtain ⟨r2, hr2⟩ : ∃ x, l ++ b = x := ⟨_, rfl⟩
        obtain ⟨n3, hn3⟩ : ∃ x, r3.length = x := ⟨_, rfl⟩
        rw [hr3] at hcv HP2 ha2
        rw [hr2] at ha1 ha2
        rw [hn3] at hcv HP2
        clear P2 b4 hr4 HM3 HJ3 HB5 hr3 hr2 hn3 HPB
        go_wp2_with fail
        refine HP2.out.mono ?_
        clear HP2 hcv ha1 ha2 hcb
        rintro e w5 hx
        obtain ⟨b5, y0, y1, y2, y3, rfl, hone5, hj5⟩ := hx.at
        have hM5 : JZ w5.heap.size (w5.alloc (.cells #[.int .i64 0, .string ⟨#[]⟩, .slice none 0 0, .slice none 0 0] 28)) := Blk.new _ w5
        have HK5 := Lib.hid hj5
        have HB7 := Lib.hid (HB6.out.trans (b5.mono HB6.out.size))
        have HM5 := Lib.hid (HM4.out.below b5)
        have HJ5 := Lib.hid (HJ4.out.below b5)
        rw [HZ1.out]
        clear hx b5 hj5 HM4 HJ4 HB6
        go_upto_region 13 with (guard_target =~ Go.wpList _ _ _ ({ dst := none, op := Go.Op.store 28 _ _, type := _, pos := _, after := _, guard := none } :: _) _ _; refine st4 rfl rfl hone5 hM5 ?_)
        intro w6 hM6 o6
        have b6 := var4 o6
        have HB8 := Lib.hid (HB7.out.trans (b6.mono HB7.out.size))
        have HM6 := Lib.hid (HM5.out.below b6)
        have HJ6 := Lib.hid (HJ5.out.below b6)
        have HK6 := Lib.hid (HK5.out.below b6)
        obtain ⟨Mw, hMw⟩ : ∃ M, w5.heap.size = M := ⟨_, rfl⟩
        rw [hMw] at hM6 ⊢
        have HN6 := Lib.hid hM6
        clear hM5 hM6 o6 b6 hMw HM5 HJ5 HK5 HB7
        have hcb := conv_slice7 c HN.out (HB.out.below HB8.out)
        have ha3 : ∀ W, (Op.stringOp .add (bs b) ⟨#[32, 110, 117, 108, 108]⟩).run Tryd.prog W = .ok (.string (bs (b ++ [32, 110, 117, 108, 108]))) W := add7 b [32, 110, 117, 108, 108] (by have := HN.out; simp; omega) _ rfl
        obtain ⟨C7, w7, hcv, b7, hr7⟩ := conv_str7 w6 (b ++ [32, 110, 117, 108, 108])
        have P3 := parse_any (c := C7) (n := (b ++ [32, 110, 117, 108, 108]).length) rfl hr7 ((HT.out.off (Off.of_below HB8.out) (fun h => h) (fun h => h)).off (Off.of_below b7) (fun h => h) (fun h => h))
        have HPN : Hid (∀ v, p = .ok v → parseJ (b ++ [32, 110, 117, 108, 108]) = .error 70) := Lib.hid (fun v hv => parse_null (by rw [HP.out]; exact hv) (by have := HN.out; omega))
        obtain ⟨p3, hp3⟩ : ∃ x, parseJ (b ++ [32, 110, 117, 108, 108]) = x := ⟨_, rfl⟩
        rw [hp3] at P3 HPN
        have HP3 := Lib.hid P3
        have HM7 := Lib.hid (HM6.out.below b7)
        have HN7 := Lib.hid (HN6.out.below b7)
        have HJ7 := Lib.hid (HJ6.out.below b7)
        have HK7 := Lib.hid (HK6.out.below b7)
        have HB9 := Lib.hid (HB8.out.trans (b7.mono HB8.out.size))
        obtain ⟨r3, hr3⟩ : ∃ x, b ++ [32, 110, 117, 108, 108] = x := ⟨_, rfl⟩
        rw [hr3] at hcv HP3 ha3
        obtain ⟨n3, hn3⟩ : ∃ x, r3.length = x := ⟨_, rfl⟩
        rw [hn3] at hcv HP3
        clear P3 b7 hr7 HM6 HN6 HJ6 HK6 HB8 hr3 hn3 hp3
        go_wp2_with fail
        refine HP3.out.mono ?_
        clear HP3 hcv ha3 hcb
        rintro e w8 hx
        obtain ⟨b8, u0, u1, u2, u3, rfl, hone8, _⟩ := hx.at
        have hM8 : JZ w8.heap.size (w8.alloc (.cells #[.int .i64 0, .string ⟨#[]⟩, .slice none 0 0, .slice none 0 0] 28)) := Blk.new _ w8
        have HB10 := Lib.hid (HB9.out.trans (b8.mono HB9.out.size))
        have HM8 := Lib.hid (HM7.out.below b8)
        have HN8 := Lib.hid (HN7.out.below b8)
        have HJ8 := Lib.hid (HJ7.out.below b8)
        have HK8 := Lib.hid (HK7.out.below b8)
        obtain ⟨z3, hz3⟩ : ∃ z, exE p3 = z := ⟨_, rfl⟩
        rw [hz3]
        have HZ3 := Lib.hid hz3
        clear hx b8 HM7 HN7 HJ7 HK7 HB9 hz3
        go_upto_region 14 with (guard_target =~ Go.wpList _ _ _ ({ dst := none, op := Go.Op.store 28 _ _, type := _, pos := _, after := _, guard := none } :: _) _ _; refine st4 rfl rfl hone8 hM8 ?_)
        intro w9 hM9 o9
        have b9 := var4 o9
        have HB11 := Lib.hid (HB10.out.trans (b9.mono HB10.out.size))
        have h9 := HM8.out.below b9
        have k9 := HN8.out.below b9
        have m0 := h9.c0
        have m1 := h9.c1
        have m2 := h9.c2
        have m3 := h9.c3
        have q0 := k9.c0
        have q1 := k9.c1
        have q2 := k9.c2
        have q3 := k9.c3
        have hsz : sizeJ (exV p) ≤ 70000 := by
          have := HP.out
          cases p with
          | error e => show sizeJ (.mk 0 [] [] []) ≤ _; rw [sizeJ, sizesJ]; simp
          | ok v => have := parse_size this; show sizeJ v ≤ _; omega
        have HS := Lib.hid (rsame_any _ _ 70000 (exV p) _ _ w9 hsz (by decide) (HJ8.out.below b9) (HK8.out.below b9))
        clear hM8 hM9 o9 b9 HM8 HN8 HJ8 HK8 HB10 h9 k9 hsz
        have hzz : (z1 == z1) = true := by simp
        by_cases hz0 : z1 = 0
        · have h70 : z3 = 70 := by
            have hz1 := HZ1.out
            cases p with
            | error e => exact absurd (hz1.trans hz0) (parse_nz HP.out)
            | ok v =>
              rw [← HZ3.out, HPN.out v rfl]
              rfl
          subst hz0
          subst h70
          go_wp2_with (go_at_call 12; (with_reducible refine HS.out.mono ?_); rintro e w10 ⟨rfl, b10⟩)
          go_ret
          exact ⟨rfl, HB11.out.trans (b10.mono HB11.out.size)⟩
        · have hzb : (z1 == 0) = false := by rw [beq_eq_false_iff_ne]; exact hz0
          go_wp2_with (go_at_call 12; (with_reducible refine HS.out.mono ?_); rintro e w10 ⟨rfl, b10⟩)
          go_ret
          exact ⟨rfl, HB11.out.trans (b10.mono HB11.out.size)⟩
end Go.Proofs.YtchgelfomnbpaaaDoor
