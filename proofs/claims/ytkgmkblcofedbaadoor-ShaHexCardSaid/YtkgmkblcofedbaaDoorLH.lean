/-
  The law ShaHex of layer 5. Conditions: the two tables of package sha hold what they are laid with.
-/
import Derived.Test.YtkgmkblcofedbaaDoorHA
import Derived.Test.YtkgmkblcofedbaaDoorRH
import Derived.Lib.BufferRead
namespace Go.Proofs.YtkgmkblcofedbaaDoor
open Go.RowKit
open Go.Lib

theorem text_two (T : List UInt8) (i : Nat) (h : i + 1 < T.length) (a b : UInt8) (ha : T.getD i 0 = a) (hb : T.getD (i + 1) 0 = b) : (⟨T.toArray⟩ : ByteArray).extract i (i + 2) = ⟨#[a]⟩ ++ ⟨#[b]⟩ := by
  have e0 : T[i] = a := by rw [← ha]; simp [List.getD, show i < T.length by omega]
  have e1 : T[i + 1] = b := by rw [← hb]; simp [List.getD, h]
  have hd : T.drop i = a :: b :: T.drop (i + 2) := by
    rw [List.drop_eq_getElem_cons (show i < T.length by omega), List.drop_eq_getElem_cons h, e0, e1]
  apply ByteArray.ext
  apply Array.ext'
  have hl : (((⟨T.toArray⟩ : ByteArray).extract i (i + 2)).data.toList) = (T.drop i).take 2 := by
    simp [ByteArray.data_extract]
  rw [hl, hd]
  rfl
theorem text_slice (T : List UInt8) (hT : T.length = 64) (k : Nat) (hk : k < 32) (a b : UInt8) (ha : T.getD (2 * k) 0 = a) (hb : T.getD (2 * k + 1) 0 = b) (U : World) :
    (Instr.slice 9 (.string ⟨T.toArray⟩) (some (.int .i64 (2 * (k : Int)))) (some (.int .i64 (2 * (k : Int) + 2))) none).run Tryd.prog U = .ok (.string (⟨#[a]⟩ ++ ⟨#[b]⟩)) U := by
  have hs : (⟨T.toArray⟩ : ByteArray).size = 64 := hT
  rw [run_slice_string_if U 9 _ .i64 .i64 _ _ Tryd.underlying9, if_pos (by rw [hs]; omega), if_pos (by omega)]
  rw [show (2 * (k : Int)).toNat = 2 * k by omega, show (2 * (k : Int) + 2).toNat = 2 * k + 2 by omega, text_two T (2 * k) (by omega) a b ha hb]
theorem conv_any (U : World) (A : Option Addr) (c n : Nat) (l : List UInt8) (hn : l.length = n) (h : RB U A l) : (convert 22 9 (.slice A n c)).run Tryd.prog U = .ok (.string ⟨l.toArray⟩) U := by
  subst hn
  rcases Nat.eq_zero_or_pos l.length with h0 | h0
  · obtain rfl : l = [] := List.eq_nil_of_length_eq_zero h0
    cases A with
    | none => exact run_convert_nil_bytes U 22 9 5 c Tryd.underlying22 Tryd.underlying5 Tryd.underlying9
    | some ad => exact run_convert_bytes_back U 22 9 5 ad c [] Tryd.underlying22 Tryd.underlying5 Tryd.underlying9 (fun j hj => absurd hj (by simp))
  · obtain ⟨b, off, rfl, _, hcs⟩ := h h0
    refine run_convert_bytes_back U 22 9 5 ⟨b, off, none⟩ c l Tryd.underlying22 Tryd.underlying5 Tryd.underlying9 (fun j hj => ?_)
    rw [Addr.add_mid, hcs j hj]
    simp [bf, List.getD, hj]
theorem rt_one (w : World) (p : ByteArray) : RT (w.alloc (.cells #[.string p] 9)) (some ⟨w.heap.size, 0, none⟩) [p] := fun _ => by
  have hr := World.rowIs_alloc w #[.string p] 9 (fun _ => .string p) (fun i hi => by
    obtain rfl : i = 0 := by simp at hi; omega
    rfl)
  refine ⟨w.heap.size, 0, rfl, by simp, fun j hj => ?_⟩
  obtain rfl : j = 0 := by simp at hj; omega
  rw [Nat.add_zero, hr.cell (i := 0) (show 0 < 1 by decide)]
  rfl
theorem be8_small (n : Nat) (h : n ≤ 1000) (yh yl : UInt8) (hh : UInt8.ofNat (n / 256) = yh) (hl : UInt8.ofNat n = yl) : be8 n = [0, 0, 0, 0, 0, 0, yh, yl] := by
  subst hh; subst hl
  have e : be8 n = [UInt8.ofNat (n / 72057594037927936), UInt8.ofNat (n / 281474976710656), UInt8.ofNat (n / 1099511627776), UInt8.ofNat (n / 4294967296), UInt8.ofNat (n / 16777216), UInt8.ofNat (n / 65536), UInt8.ofNat (n / 256), UInt8.ofNat (n / 1)] := rfl
  rw [e, Nat.div_eq_of_lt (show n < 72057594037927936 by omega), Nat.div_eq_of_lt (show n < 281474976710656 by omega), Nat.div_eq_of_lt (show n < 1099511627776 by omega), Nat.div_eq_of_lt (show n < 4294967296 by omega), Nat.div_eq_of_lt (show n < 16777216 by omega), Nat.div_eq_of_lt (show n < 65536 by omega), Nat.div_one]
  rfl
theorem rb_eight (W : World) (l : List UInt8) (yh yl : UInt8) (hl : l = [0, 0, 0, 0, 0, 0, yh, yl]) : RB (W.alloc (.cells #[.int .u8 0, .int .u8 0, .int .u8 0, .int .u8 0, .int .u8 0, .int .u8 0, .int .u8 (yh.toNat : Int), .int .u8 (yl.toNat : Int)] 5)) (some ⟨W.heap.size, 0, none⟩) l := fun _ => by
  subst hl
  have hr := World.rowIs_alloc W #[.int .u8 0, .int .u8 0, .int .u8 0, .int .u8 0, .int .u8 0, .int .u8 0, .int .u8 (yh.toNat : Int), .int .u8 (yl.toNat : Int)] 5 (bf [0, 0, 0, 0, 0, 0, yh, yl]) (fun i hi => by
    have hi8 : i < 8 := hi
    rcases (by omega : i = 0 ∨ i = 1 ∨ i = 2 ∨ i = 3 ∨ i = 4 ∨ i = 5 ∨ i = 6 ∨ i = 7) with rfl | rfl | rfl | rfl | rfl | rfl | rfl | rfl <;> rfl)
  refine ⟨W.heap.size, 0, rfl, by simp, fun j hj => ?_⟩
  rw [Nat.zero_add, hr.cell (show j < 8 from hj)]
/-- Hex of the eight bytes and the text. -/
theorem hex_eight (A : Option Addr) (c n : Nat) (l : List UInt8) (hn : l.length = n) (hc : n ≤ c) (hn1 : n ≤ 1000) (yh yl : UInt8) (hy : be8 n = [0, 0, 0, 0, 0, 0, yh, yl]) (W : World) (hE : Env W) (hr : RB W A l) (S : ByteArray) (hS : (⟨(hexP (sumP (be8 n ++ l))).toArray⟩ : ByteArray) = S) :
    Calls Tryd.prog 10 #[.slice (some ⟨W.heap.size + 1, 0, none⟩) 2 2] ((W.alloc (.cells #[.int .u8 0, .int .u8 0, .int .u8 0, .int .u8 0, .int .u8 0, .int .u8 0, .int .u8 (yh.toNat : Int), .int .u8 (yl.toNat : Int)] 5)).alloc (.cells #[.slice (some ⟨W.heap.size, 0, none⟩) 8 8, .slice A n c] 22)) fun e w' => e = .returned (.string S) ∧ Below W.heap.size W w' := by
  obtain ⟨V, hV⟩ : ∃ V, W.alloc (.cells #[.int .u8 0, .int .u8 0, .int .u8 0, .int .u8 0, .int .u8 0, .int .u8 0, .int .u8 (yh.toNat : Int), .int .u8 (yl.toNat : Int)] 5) = V := ⟨_, rfl⟩
  have h8 := rb_eight W (be8 n) yh yl hy
  rw [hV] at h8 ⊢
  have hb : Below W.heap.size W V := by rw [← hV]; exact (Below.refl _ _).alloc (Nat.le_refl _) _
  have hz : V.heap.size = W.heap.size + 1 := by rw [← hV]; simp
  have hP := ps_two (be8_length n) (Nat.le_refl 8) h8 hn hc (hr.below (Nat.le_refl _) hb)
  have hb2 : Below W.heap.size W (V.alloc (.cells #[.slice (some ⟨W.heap.size, 0, none⟩) 8 8, .slice A n c] 22)) := hb.alloc (by omega) _
  rw [hz] at hP
  have := hex_any (some ⟨W.heap.size + 1, 0, none⟩) 2 [be8 n, l] (by simp [hn, be8_length]; omega) (by simp) 2 rfl _ (hE.after hb2) hP
  rw [show ([be8 n, l] : List (List UInt8)).flatten = be8 n ++ l by simp, hS] at this
  refine this.mono ?_
  rintro e w' ⟨h1, h2⟩
  exact ⟨h1, hb2.trans (h2.mono hb2.size)⟩
theorem hret_bool {a b : Bool} (h : a = b) : Ending.returned (.bool a) = .returned (.bool b) := by rw [h]
set_option maxRecDepth 100000 in
set_option maxHeartbeats 4000000 in
theorem law_hex (A : Option Addr) (c : Nat) (l : List UInt8) (n : Nat) (hn : l.length = n) (hc : n ≤ c) (hA : A = none → c = 0) (B : Option Addr) (d : Nat) (r : List UInt8) (m : Nat) (hm : r.length = m) (hd : m ≤ d) (hB : B = none → d = 0)
    (w : World) (hE : Env w) (hr : RB w A l) (hs : RB w B r) :
    Calls Tryd.prog 6 #[.slice A n c, .slice B m d] w fun e w' => e = .returned (.bool true) ∧ Below w.heap.size w w' := by
  have hf := first_any w hE
  have hsplit : ((n : Int) < (m : Int) ∧ (n : Int) ≤ (m : Int) ∧ ¬ (m : Int) < (n : Int) ∧ ¬ (m : Int) ≤ (n : Int)) ∨ ((m : Int) ≤ (n : Int) ∧ ¬ (n : Int) < (m : Int)) := by omega
  by_cases hbig : 1000 < max n m
  · rcases hsplit with ⟨g1, g2, g3, g4⟩ | ⟨g1, g2⟩
    · have h2 : (1000 : Int) < (m : Int) := by omega
      go_enter Tryd.func6, Tryd.ntmps6
      go_wp2_with fail
      refine hf.mono ?_
      clear hf
      rintro e w1 ⟨rfl, B1⟩
      go_wp2
      go_ret
      exact ⟨rfl, B1⟩
    · have h2 : (1000 : Int) < (n : Int) := by omega
      go_enter Tryd.func6, Tryd.ntmps6
      go_wp2_with fail
      refine hf.mono ?_
      clear hf
      rintro e w1 ⟨rfl, B1⟩
      go_wp2
      all_goals
        go_ret
        exact ⟨rfl, B1⟩
  · have h2 : ¬ (1000 : Int) < (n : Int) := by omega
    have h3 : ¬ (1000 : Int) < (m : Int) := by omega
    rcases hsplit with ⟨g1, g2, g3, g4⟩ | ⟨g1, g2⟩
    · go_enter Tryd.func6, Tryd.ntmps6
      go_wp2_with fail
      refine hf.mono ?_
      clear hf
      rintro e w1 ⟨rfl, B1⟩
      have z1 := B1.size
      have hr1 := hr.below (Nat.le_refl _) B1
      have hs1 := hs.below (Nat.le_refl _) B1
      have hP := ps_two hn hc hr1 hm hd hs1
      obtain ⟨V1, hV1⟩ : ∃ V1, w1.alloc (.cells #[.slice A n c, .slice B m d] 22) = V1 := ⟨_, rfl⟩
      have hb1 : Below w1.heap.size w1 V1 := by rw [← hV1]; exact (Below.refl _ _).alloc (Nat.le_refl _) _
      have hbV : Below w.heap.size w V1 := B1.trans (hb1.mono z1)
      have hrV := hr1.below (Nat.le_refl _) hb1
      have hsV := hs1.below (Nat.le_refl _) hb1
      rw [hV1] at hP
      have hsum := sum_any (some ⟨w1.heap.size, 0, none⟩) 2 [l, r] (by simp [hn, hm]; omega) (by simp) 2 rfl V1 (hE.after hbV) hP
      rw [show ([l, r] : List (List UInt8)).flatten = l ++ r by simp] at hsum
      obtain ⟨s, hsv⟩ : ∃ s, sumP (l ++ r) = s := ⟨_, rfl⟩
      have hs32 : s.length = 32 := by rw [← hsv]; exact sumP_len _
      rw [hsv] at hsum
      have HN := Lib.hid hn
      have HM := Lib.hid hm
      have HS := Lib.hid hs32
      have HSV := Lib.hid hsv
      have zV := hbV.size
      clear hs32 hsv hP hr1 hs1 hb1 hn hm
      go_wp2_with (first | (go_at_call 8; (with_reducible refine hsum.mono ?_); rintro e w2 ⟨rfl, hb2⟩) | (at_builtin; refine appIn2 rfl _ _ rfl w2 w2 w2.heap.size l n c A HN.out hA rfl rfl (hrV.below (Nat.le_refl _) hb2) (by omega) (Nat.le_refl _) (Below.refl _ _) ?_))
      intro v3 w3 hown3 hv3 hb3
      have hs3 : RB w3 B r := (hsV.below (Nat.le_refl _) hb2).below (Nat.le_refl _) hb3
      have z3 := hb3.size
      clear hsum
      go_wp2_with (at_builtin; refine appA rfl _ _ rfl w3 w2 w2.heap.size w2.heap.size v3 l r n m d B HN.out HM.out hB hv3 rfl (by exact hown3) rfl hs3 (by omega) z3 (Nat.le_refl _) hb3 ?_)
      intro A4 c4 w4 hown4 hr4 hc4 hb4
      have hlr : (l ++ r).length = n + m := by rw [List.length_append, HN.out, HM.out]
      have hP5 := ps_oneH hlr hc4 hr4
      obtain ⟨V5, hV5⟩ : ∃ V, w4.alloc (.cells #[.slice A4 (n + m) c4] 22) = V := ⟨_, rfl⟩
      have hbw2 : Below w.heap.size w w2 := hbV.trans (hb2.mono zV)
      have hbw4 : Below w.heap.size w w4 := hbw2.trans (hb4.mono hbw2.size)
      have hb5 : Below w4.heap.size w4 V5 := by rw [← hV5]; exact (Below.refl _ _).alloc (Nat.le_refl _) _
      have hbw5 : Below w.heap.size w V5 := hbw4.trans (hb5.mono hbw4.size)
      rw [hV5] at hP5
      have hhex := hex_any (some ⟨w4.heap.size, 0, none⟩) 1 [l ++ r] (by simp [HN.out, HM.out]; omega) (by simp) 1 rfl V5 (hE.after hbw5) hP5
      rw [show ([l ++ r] : List (List UInt8)).flatten = l ++ r by simp, HSV.out] at hhex
      obtain ⟨T, hT⟩ : ∃ q, hexP s = q := ⟨_, rfl⟩
      have hTl : T.length = 64 := by rw [← hT, hexP_len, HS.out]
      have hTa : ∀ i b, i < 32 → s.getD i 0 = b → T.getD (2 * i) 0 = dgt (b.toNat / 16) ∧ T.getD (2 * i + 1) 0 = dgt (b.toNat % 16) := fun i b hi hb => by rw [← hT, ← hb]; exact hexP_at s i (by rw [HS.out]; exact hi)
      have HT := Lib.hid hT
      rw [hT] at hhex
      have HTL := Lib.hid hTl
      have HTA := Lib.hid hTa
      have z5 := hbw5.size
      clear hT hTl hTa hP5 hlr hown3 hown4 hr4 hs3 hb3 hb4 hb2 hbV hrV hsV hv3
      go_wp2_with (first | (go_at_call 10; (with_reducible refine hhex.mono ?_); rintro e w6 ⟨rfl, hb6⟩) | (guard_target =~ Go.wpList _ _ _ ({ dst := none, op := Go.Op.store 26 _ _, type := _, pos := _, after := _, guard := none } :: _) _ _; refine wpList_store_row rfl rfl 26 (.tmp 5) (.tmp 21) rfl w6.heap.size 26 32 (bf []) (bf s) (cellsB s) rfl rfl (row_zeroH w6) (by rw [cellsB_length, HS.out]) (by kernel_rfl) (cellsB_one _) (fun j hj => cellsB_at _ j (by rw [HS.out]; exact hj)) ?_))
      intro V7 hrow hgr
      have hbw6 : Below w.heap.size w w6 := hbw5.trans (hb6.mono z5)
      have z6 := hbw6.size
      have hbw7 : Below w.heap.size w V7 := (hbw6.alloc z6 _).grown hgr (by simp; omega) (fun k hk => by cases hk; omega)
      have z7 := hbw7.size
      have hrg : V7.rangeAt w6.heap.size 0 (cellsB s) := fun j u hj => by
        have hjl : j < 32 := by have := (List.getElem?_eq_some_iff.1 hj).1; rw [cellsB_length, HS.out] at this; exact this
        rw [Nat.zero_add, hrow.cell hjl, ← cellsB_at s j (by rw [HS.out]; exact hjl)]
        exact hj
      have HR := Lib.hid hrg
      clear hgr hrow hhex hbw5 hbw6 hbw4 hbw2 hb5 hb6 hrg
      go_wp2_with (guard_target =~ Go.wpList _ _ _ ({ dst := _, op := Go.Op.load 26 _, type := _, pos := _, after := _, guard := none } :: _) _ _; refine wpList_load_mid rfl 26 (.tmp 5) rfl w6.heap.size 0 rfl (cellsB s) _ HR.out Tryd.underlying26 rfl (by rw [cellsB_length, HS.out]; kernel_rfl) ?_)
      clear HR
      go_loopw [30] (fun ti wr => ∃ (k : Nat), k ≤ 32 ∧ ti = .int .i64 k ∧ Below V7.heap.size V7 wr) (fun ti _ => 32 - (RowKit.intOf ti).toNat)
      case atStart => exact ⟨0, by omega, rfl, Below.refl _ _⟩
      case round =>
        obtain ⟨k, hk, rfl, hbr⟩ := hrel
        have hrz := hbr.size
        by_cases hk32 : k < 32
        · obtain ⟨b, hb⟩ : ∃ b, s.getD k 0 = b := ⟨_, rfl⟩
          have xv : ∀ U, (Instr.index 26 (.agg (cellsB s).toArray) (.int .i64 (k : Int))).run Tryd.prog U = .ok (.int .u8 (b.toNat : Int)) U := fun U => by
            have hv : (cellsB s)[k]? = some (.int .u8 (b.toNat : Int)) := by rw [cellsB_at s k (by rw [HS.out]; exact hk32)]; unfold bf; rw [hb]
            exact ix_val U _ _ 32 _ _ k _ Tryd.underlying26 (size_u8 U) rfl hk32 (part_u8 U _ k _ hv)
          have hbt := b.toNat_lt
          have ht := HTA.out k b hk32 hb
          obtain ⟨q, hq⟩ : ∃ q, b.toNat / 16 = q := ⟨_, rfl⟩
          obtain ⟨r0, hrr⟩ : ∃ r, b.toNat % 16 = r := ⟨_, rfl⟩
          rw [hq, hrr] at ht
          have tx := fun U => text_slice T HTL.out k hk32 _ _ ht.1 ht.2 U
          have zk : IntKind.i64.wrap (2 * (k : Int)) = 2 * (k : Int) := IntWalk.i64_in _ (by omega)
          have zk2 : IntKind.i64.wrap (2 * (k : Int) + 2) = 2 * (k : Int) + 2 := IntWalk.i64_in _ (by omega)
          have e1 : (b.toNat : Int) / 16 = (q : Int) := by omega
          have e2 : (b.toNat : Int) % 16 = (r0 : Int) := by omega
          have e1' : (b.toNat : Int).tdiv 16 = (q : Int) := by rw [Int.tdiv_eq_ediv_of_nonneg (by omega)]; exact e1
          have e2' : (b.toNat : Int).tmod 16 = (r0 : Int) := by rw [Int.tmod_eq_emod_of_nonneg (by omega)]; exact e2
          have wq : IntKind.u8.wrap (q : Int) = (q : Int) := by rw [IntKind.wrap_u8]; omega
          have wr' : IntKind.u8.wrap (r0 : Int) = (r0 : Int) := by rw [IntKind.wrap_u8]; omega
          have dq := fun U => dig_slice U q (by omega)
          have dr := fun U => dig_slice U r0 (by omega)
          obtain ⟨q1, hq1⟩ : ∃ z, q + 1 = z := ⟨_, rfl⟩
          obtain ⟨r1, hr1⟩ : ∃ z, r0 + 1 = z := ⟨_, rfl⟩
          rw [hq1] at dq
          rw [hr1] at dr
          have w1' : IntKind.u8.wrap ((q : Int) + 1) = (q1 : Int) := by rw [IntKind.wrap_u8]; omega
          have w2' : IntKind.u8.wrap ((r0 : Int) + 1) = (r1 : Int) := by rw [IntKind.wrap_u8]; omega
          obtain ⟨D1, hD1⟩ : ∃ z : ByteArray, ⟨#[dgt q]⟩ = z := ⟨_, rfl⟩
          obtain ⟨D2, hD2⟩ : ∃ z : ByteArray, ⟨#[dgt r0]⟩ = z := ⟨_, rfl⟩
          have hd1s : D1.size = 1 := by rw [← hD1]; rfl
          have hd2s : D2.size = 1 := by rw [← hD2]; rfl
          rw [hD1, hD2] at tx
          rw [hD1] at dq
          rw [hD2] at dr
          obtain ⟨PQ, hPQ⟩ : ∃ z, D1 ++ D2 = z := ⟨_, rfl⟩
          have a1 : ∀ U, (Op.stringOp .add D1 D2).run Tryd.prog U = .ok (.string PQ) U := fun U => by rw [run_string_add_sum U _ _ (by omega), hPQ]
          rw [hPQ] at tx
          clear ht hb hq hrr hq1 hr1 hD1 hD2 hPQ hd1s hd2s HTA
          go_wp2
          go_quiet (fail)
          have hbq : Below V7.heap.size V7 (wr.drewN nq) := below_drewN hbr _
          clear hbr
          generalize wr.drewN nq = V at *
          go_wp2
          go_roundw
          case rel => exact ⟨k + 1, by omega, by go_num, hbq⟩
          case measure => simp [RowKit.intOf]; omega
        · have hge : (32 : Int) ≤ (k : Int) := by omega
          have hd32 : decide ((k : Int) < 32) = false := by simpa using hge
          have hsz : (⟨T.toArray⟩ : ByteArray).size = 64 := HTL.out
          obtain ⟨TS, hTS⟩ : ∃ q : ByteArray, ⟨T.toArray⟩ = q := ⟨_, rfl⟩
          rw [hTS] at hsz ⊢
          have hbw : Below w.heap.size w wr := hbw7.trans (hbr.mono z7)
          have zr := hbw.size
          have hrr := hr.below (Nat.le_refl _) hbw
          have hcv := conv_any wr A c n l HN.out hrr
          obtain ⟨p, hp⟩ : ∃ q : ByteArray, ⟨l.toArray⟩ = q := ⟨_, rfl⟩
          rw [hp] at hcv
          have hps : p.size = n := by rw [← hp]; exact HN.out
          have hkb : keyB (txts [p]) = be8 n ++ l := by
            have e : p.data.toList = l := by rw [← hp]
            have e2 : l.length = n := HN.out
            simp [keyB, txts, e, e2]
          obtain ⟨V8, hV8⟩ : ∃ V, wr.alloc (.cells #[.string p] 9) = V := ⟨_, rfl⟩
          have hb8 : Below wr.heap.size wr V8 := by rw [← hV8]; exact (Below.refl _ _).alloc (Nat.le_refl _) _
          have q8 : Below w.heap.size w V8 := hbw.trans (hb8.mono zr)
          have z8 := q8.size
          have hRT := rt_one wr p
          rw [hV8] at hRT
          have hkey := key_any (some ⟨wr.heap.size, 0, none⟩) 1 [p] (by simp) (fun x hx => by rw [List.mem_singleton.1 hx]; omega) 1 rfl V8 (hE.after q8) hRT
          obtain ⟨yh, hyh⟩ : ∃ z, UInt8.ofNat (n / 256) = z := ⟨_, rfl⟩
          obtain ⟨yl, hyl⟩ : ∃ z, UInt8.ofNat n = z := ⟨_, rfl⟩
          have f1 : (n : Int) / (256 : Int) = (yh.toNat : Int) := by rw [← hyh, u8_toNat]; omega
          have f2 : (n : Int) % 256 = (yl.toNat : Int) := by rw [← hyl, u8_toNat]
          have hy8 := be8_small n (by omega) yh yl hyh hyl
          rw [hkb] at hkey
          obtain ⟨S, hS⟩ : ∃ q : ByteArray, ⟨(hexP (sumP (be8 n ++ l))).toArray⟩ = q := ⟨_, rfl⟩
          rw [hS] at hkey
          have hhex2 := fun (W : World) (hW : Below w.heap.size w W) => hex_eight A c n l HN.out hc (by omega) yh yl hy8 W (hE.after hW) (hr.below (Nat.le_refl _) hW) S hS
          have hkey0 := fun (W : World) (hW : Below w.heap.size w W) => key_any none 0 [] (by simp) (fun x hx => by simp at hx) 0 rfl W (hE.after hW) (fun h => absurd h (by decide))
          have hhex0 := fun (W : World) (hW : Below w.heap.size w W) => hex_any none 0 [] (by decide) (by decide) 0 rfl W (hE.after hW) (fun h => absurd h (by decide))
          rw [show keyB (txts []) = ([] : List UInt8) from rfl] at hkey0
          rw [show ([] : List (List UInt8)).flatten = ([] : List UInt8) from rfl] at hhex0
          obtain ⟨S0, hS0⟩ : ∃ q : ByteArray, ⟨(hexP (sumP [])).toArray⟩ = q := ⟨_, rfl⟩
          rw [hS0] at hkey0 hhex0
          clear HTA hTS hbr hyh hyl hy8 hS hS0 hkb hRT hp hps hb8 hbw7 hrr
          go_wp2_with (first
            | (go_at_call 12; (with_reducible refine hkey.mono ?_); rintro e w9 ⟨rfl, hb9⟩; have q9 : Below w.heap.size w w9 := q8.trans (hb9.mono z8))
            | (go_at_call 10; (with_reducible refine (hhex2 w9 q9).mono ?_); rintro e w12 ⟨rfl, hb12⟩; have q12 : Below w.heap.size w w12 := q9.trans (hb12.mono q9.size))
            | (go_at_call 12; (with_reducible refine (hkey0 w12 q12).mono ?_); rintro e w13 ⟨rfl, hb13⟩; have q13 : Below w.heap.size w w13 := q12.trans (hb13.mono q12.size))
            | (go_at_call 10; (with_reducible refine (hhex0 w13 q13).mono ?_); rintro e w14 ⟨rfl, hb14⟩; have q14 : Below w.heap.size w w14 := q13.trans (hb14.mono q13.size)))
          go_ret
          exact ⟨hret_bool (by simp), q14⟩
    · go_enter Tryd.func6, Tryd.ntmps6
      go_wp2_with fail
      refine hf.mono ?_
      clear hf
      rintro e w1 ⟨rfl, B1⟩
      have z1 := B1.size
      have hr1 := hr.below (Nat.le_refl _) B1
      have hs1 := hs.below (Nat.le_refl _) B1
      have hP := ps_two hn hc hr1 hm hd hs1
      obtain ⟨V1, hV1⟩ : ∃ V1, w1.alloc (.cells #[.slice A n c, .slice B m d] 22) = V1 := ⟨_, rfl⟩
      have hb1 : Below w1.heap.size w1 V1 := by rw [← hV1]; exact (Below.refl _ _).alloc (Nat.le_refl _) _
      have hbV : Below w.heap.size w V1 := B1.trans (hb1.mono z1)
      have hrV := hr1.below (Nat.le_refl _) hb1
      have hsV := hs1.below (Nat.le_refl _) hb1
      rw [hV1] at hP
      have hsum := sum_any (some ⟨w1.heap.size, 0, none⟩) 2 [l, r] (by simp [hn, hm]; omega) (by simp) 2 rfl V1 (hE.after hbV) hP
      rw [show ([l, r] : List (List UInt8)).flatten = l ++ r by simp] at hsum
      obtain ⟨s, hsv⟩ : ∃ s, sumP (l ++ r) = s := ⟨_, rfl⟩
      have hs32 : s.length = 32 := by rw [← hsv]; exact sumP_len _
      rw [hsv] at hsum
      have HN := Lib.hid hn
      have HM := Lib.hid hm
      have HS := Lib.hid hs32
      have HSV := Lib.hid hsv
      have zV := hbV.size
      clear hs32 hsv hP hr1 hs1 hb1 hn hm
      go_wp2_with (first | (go_at_call 8; (with_reducible refine hsum.mono ?_); rintro e w2 ⟨rfl, hb2⟩) | (at_builtin; refine appIn2 rfl _ _ rfl w2 w2 w2.heap.size l n c A HN.out hA rfl rfl (hrV.below (Nat.le_refl _) hb2) (by omega) (Nat.le_refl _) (Below.refl _ _) ?_))
      intro v3 w3 hown3 hv3 hb3
      have hs3 : RB w3 B r := (hsV.below (Nat.le_refl _) hb2).below (Nat.le_refl _) hb3
      have z3 := hb3.size
      clear hsum
      go_wp2_with (at_builtin; refine appA rfl _ _ rfl w3 w2 w2.heap.size w2.heap.size v3 l r n m d B HN.out HM.out hB hv3 rfl (by exact hown3) rfl hs3 (by omega) z3 (Nat.le_refl _) hb3 ?_)
      intro A4 c4 w4 hown4 hr4 hc4 hb4
      have hlr : (l ++ r).length = n + m := by rw [List.length_append, HN.out, HM.out]
      have hP5 := ps_oneH hlr hc4 hr4
      obtain ⟨V5, hV5⟩ : ∃ V, w4.alloc (.cells #[.slice A4 (n + m) c4] 22) = V := ⟨_, rfl⟩
      have hbw2 : Below w.heap.size w w2 := hbV.trans (hb2.mono zV)
      have hbw4 : Below w.heap.size w w4 := hbw2.trans (hb4.mono hbw2.size)
      have hb5 : Below w4.heap.size w4 V5 := by rw [← hV5]; exact (Below.refl _ _).alloc (Nat.le_refl _) _
      have hbw5 : Below w.heap.size w V5 := hbw4.trans (hb5.mono hbw4.size)
      rw [hV5] at hP5
      have hhex := hex_any (some ⟨w4.heap.size, 0, none⟩) 1 [l ++ r] (by simp [HN.out, HM.out]; omega) (by simp) 1 rfl V5 (hE.after hbw5) hP5
      rw [show ([l ++ r] : List (List UInt8)).flatten = l ++ r by simp, HSV.out] at hhex
      obtain ⟨T, hT⟩ : ∃ q, hexP s = q := ⟨_, rfl⟩
      have hTl : T.length = 64 := by rw [← hT, hexP_len, HS.out]
      have hTa : ∀ i b, i < 32 → s.getD i 0 = b → T.getD (2 * i) 0 = dgt (b.toNat / 16) ∧ T.getD (2 * i + 1) 0 = dgt (b.toNat % 16) := fun i b hi hb => by rw [← hT, ← hb]; exact hexP_at s i (by rw [HS.out]; exact hi)
      have HT := Lib.hid hT
      rw [hT] at hhex
      have HTL := Lib.hid hTl
      have HTA := Lib.hid hTa
      have z5 := hbw5.size
      clear hT hTl hTa hP5 hlr hown3 hown4 hr4 hs3 hb3 hb4 hb2 hbV hrV hsV hv3
      go_wp2_with (first | (go_at_call 10; (with_reducible refine hhex.mono ?_); rintro e w6 ⟨rfl, hb6⟩) | (guard_target =~ Go.wpList _ _ _ ({ dst := none, op := Go.Op.store 26 _ _, type := _, pos := _, after := _, guard := none } :: _) _ _; refine wpList_store_row rfl rfl 26 (.tmp 5) (.tmp 21) rfl w6.heap.size 26 32 (bf []) (bf s) (cellsB s) rfl rfl (row_zeroH w6) (by rw [cellsB_length, HS.out]) (by kernel_rfl) (cellsB_one _) (fun j hj => cellsB_at _ j (by rw [HS.out]; exact hj)) ?_))
      intro V7 hrow hgr
      have hbw6 : Below w.heap.size w w6 := hbw5.trans (hb6.mono z5)
      have z6 := hbw6.size
      have hbw7 : Below w.heap.size w V7 := (hbw6.alloc z6 _).grown hgr (by simp; omega) (fun k hk => by cases hk; omega)
      have z7 := hbw7.size
      have hrg : V7.rangeAt w6.heap.size 0 (cellsB s) := fun j u hj => by
        have hjl : j < 32 := by have := (List.getElem?_eq_some_iff.1 hj).1; rw [cellsB_length, HS.out] at this; exact this
        rw [Nat.zero_add, hrow.cell hjl, ← cellsB_at s j (by rw [HS.out]; exact hjl)]
        exact hj
      have HR := Lib.hid hrg
      clear hgr hrow hhex hbw5 hbw6 hbw4 hbw2 hb5 hb6 hrg
      go_wp2_with (guard_target =~ Go.wpList _ _ _ ({ dst := _, op := Go.Op.load 26 _, type := _, pos := _, after := _, guard := none } :: _) _ _; refine wpList_load_mid rfl 26 (.tmp 5) rfl w6.heap.size 0 rfl (cellsB s) _ HR.out Tryd.underlying26 rfl (by rw [cellsB_length, HS.out]; kernel_rfl) ?_)
      clear HR
      go_loopw [30] (fun ti wr => ∃ (k : Nat), k ≤ 32 ∧ ti = .int .i64 k ∧ Below V7.heap.size V7 wr) (fun ti _ => 32 - (RowKit.intOf ti).toNat)
      case atStart => exact ⟨0, by omega, rfl, Below.refl _ _⟩
      case round =>
        obtain ⟨k, hk, rfl, hbr⟩ := hrel
        have hrz := hbr.size
        by_cases hk32 : k < 32
        · obtain ⟨b, hb⟩ : ∃ b, s.getD k 0 = b := ⟨_, rfl⟩
          have xv : ∀ U, (Instr.index 26 (.agg (cellsB s).toArray) (.int .i64 (k : Int))).run Tryd.prog U = .ok (.int .u8 (b.toNat : Int)) U := fun U => by
            have hv : (cellsB s)[k]? = some (.int .u8 (b.toNat : Int)) := by rw [cellsB_at s k (by rw [HS.out]; exact hk32)]; unfold bf; rw [hb]
            exact ix_val U _ _ 32 _ _ k _ Tryd.underlying26 (size_u8 U) rfl hk32 (part_u8 U _ k _ hv)
          have hbt := b.toNat_lt
          have ht := HTA.out k b hk32 hb
          obtain ⟨q, hq⟩ : ∃ q, b.toNat / 16 = q := ⟨_, rfl⟩
          obtain ⟨r0, hrr⟩ : ∃ r, b.toNat % 16 = r := ⟨_, rfl⟩
          rw [hq, hrr] at ht
          have tx := fun U => text_slice T HTL.out k hk32 _ _ ht.1 ht.2 U
          have zk : IntKind.i64.wrap (2 * (k : Int)) = 2 * (k : Int) := IntWalk.i64_in _ (by omega)
          have zk2 : IntKind.i64.wrap (2 * (k : Int) + 2) = 2 * (k : Int) + 2 := IntWalk.i64_in _ (by omega)
          have e1 : (b.toNat : Int) / 16 = (q : Int) := by omega
          have e2 : (b.toNat : Int) % 16 = (r0 : Int) := by omega
          have e1' : (b.toNat : Int).tdiv 16 = (q : Int) := by rw [Int.tdiv_eq_ediv_of_nonneg (by omega)]; exact e1
          have e2' : (b.toNat : Int).tmod 16 = (r0 : Int) := by rw [Int.tmod_eq_emod_of_nonneg (by omega)]; exact e2
          have wq : IntKind.u8.wrap (q : Int) = (q : Int) := by rw [IntKind.wrap_u8]; omega
          have wr' : IntKind.u8.wrap (r0 : Int) = (r0 : Int) := by rw [IntKind.wrap_u8]; omega
          have dq := fun U => dig_slice U q (by omega)
          have dr := fun U => dig_slice U r0 (by omega)
          obtain ⟨q1, hq1⟩ : ∃ z, q + 1 = z := ⟨_, rfl⟩
          obtain ⟨r1, hr1⟩ : ∃ z, r0 + 1 = z := ⟨_, rfl⟩
          rw [hq1] at dq
          rw [hr1] at dr
          have w1' : IntKind.u8.wrap ((q : Int) + 1) = (q1 : Int) := by rw [IntKind.wrap_u8]; omega
          have w2' : IntKind.u8.wrap ((r0 : Int) + 1) = (r1 : Int) := by rw [IntKind.wrap_u8]; omega
          obtain ⟨D1, hD1⟩ : ∃ z : ByteArray, ⟨#[dgt q]⟩ = z := ⟨_, rfl⟩
          obtain ⟨D2, hD2⟩ : ∃ z : ByteArray, ⟨#[dgt r0]⟩ = z := ⟨_, rfl⟩
          have hd1s : D1.size = 1 := by rw [← hD1]; rfl
          have hd2s : D2.size = 1 := by rw [← hD2]; rfl
          rw [hD1, hD2] at tx
          rw [hD1] at dq
          rw [hD2] at dr
          obtain ⟨PQ, hPQ⟩ : ∃ z, D1 ++ D2 = z := ⟨_, rfl⟩
          have a1 : ∀ U, (Op.stringOp .add D1 D2).run Tryd.prog U = .ok (.string PQ) U := fun U => by rw [run_string_add_sum U _ _ (by omega), hPQ]
          rw [hPQ] at tx
          clear ht hb hq hrr hq1 hr1 hD1 hD2 hPQ hd1s hd2s HTA
          go_wp2
          go_quiet (fail)
          have hbq : Below V7.heap.size V7 (wr.drewN nq) := below_drewN hbr _
          clear hbr
          generalize wr.drewN nq = V at *
          go_wp2
          go_roundw
          case rel => exact ⟨k + 1, by omega, by go_num, hbq⟩
          case measure => simp [RowKit.intOf]; omega
        · have hge : (32 : Int) ≤ (k : Int) := by omega
          have hd32 : decide ((k : Int) < 32) = false := by simpa using hge
          have hsz : (⟨T.toArray⟩ : ByteArray).size = 64 := HTL.out
          obtain ⟨TS, hTS⟩ : ∃ q : ByteArray, ⟨T.toArray⟩ = q := ⟨_, rfl⟩
          rw [hTS] at hsz ⊢
          have hbw : Below w.heap.size w wr := hbw7.trans (hbr.mono z7)
          have zr := hbw.size
          have hrr := hr.below (Nat.le_refl _) hbw
          have hcv := conv_any wr A c n l HN.out hrr
          obtain ⟨p, hp⟩ : ∃ q : ByteArray, ⟨l.toArray⟩ = q := ⟨_, rfl⟩
          rw [hp] at hcv
          have hps : p.size = n := by rw [← hp]; exact HN.out
          have hkb : keyB (txts [p]) = be8 n ++ l := by
            have e : p.data.toList = l := by rw [← hp]
            have e2 : l.length = n := HN.out
            simp [keyB, txts, e, e2]
          obtain ⟨V8, hV8⟩ : ∃ V, wr.alloc (.cells #[.string p] 9) = V := ⟨_, rfl⟩
          have hb8 : Below wr.heap.size wr V8 := by rw [← hV8]; exact (Below.refl _ _).alloc (Nat.le_refl _) _
          have q8 : Below w.heap.size w V8 := hbw.trans (hb8.mono zr)
          have z8 := q8.size
          have hRT := rt_one wr p
          rw [hV8] at hRT
          have hkey := key_any (some ⟨wr.heap.size, 0, none⟩) 1 [p] (by simp) (fun x hx => by rw [List.mem_singleton.1 hx]; omega) 1 rfl V8 (hE.after q8) hRT
          obtain ⟨yh, hyh⟩ : ∃ z, UInt8.ofNat (n / 256) = z := ⟨_, rfl⟩
          obtain ⟨yl, hyl⟩ : ∃ z, UInt8.ofNat n = z := ⟨_, rfl⟩
          have f1 : (n : Int) / (256 : Int) = (yh.toNat : Int) := by rw [← hyh, u8_toNat]; omega
          have f2 : (n : Int) % 256 = (yl.toNat : Int) := by rw [← hyl, u8_toNat]
          have hy8 := be8_small n (by omega) yh yl hyh hyl
          rw [hkb] at hkey
          obtain ⟨S, hS⟩ : ∃ q : ByteArray, ⟨(hexP (sumP (be8 n ++ l))).toArray⟩ = q := ⟨_, rfl⟩
          rw [hS] at hkey
          have hhex2 := fun (W : World) (hW : Below w.heap.size w W) => hex_eight A c n l HN.out hc (by omega) yh yl hy8 W (hE.after hW) (hr.below (Nat.le_refl _) hW) S hS
          have hkey0 := fun (W : World) (hW : Below w.heap.size w W) => key_any none 0 [] (by simp) (fun x hx => by simp at hx) 0 rfl W (hE.after hW) (fun h => absurd h (by decide))
          have hhex0 := fun (W : World) (hW : Below w.heap.size w W) => hex_any none 0 [] (by decide) (by decide) 0 rfl W (hE.after hW) (fun h => absurd h (by decide))
          rw [show keyB (txts []) = ([] : List UInt8) from rfl] at hkey0
          rw [show ([] : List (List UInt8)).flatten = ([] : List UInt8) from rfl] at hhex0
          obtain ⟨S0, hS0⟩ : ∃ q : ByteArray, ⟨(hexP (sumP [])).toArray⟩ = q := ⟨_, rfl⟩
          rw [hS0] at hkey0 hhex0
          clear HTA hTS hbr hyh hyl hy8 hS hS0 hkb hRT hp hps hb8 hbw7 hrr
          go_wp2_with (first
            | (go_at_call 12; (with_reducible refine hkey.mono ?_); rintro e w9 ⟨rfl, hb9⟩; have q9 : Below w.heap.size w w9 := q8.trans (hb9.mono z8))
            | (go_at_call 10; (with_reducible refine (hhex2 w9 q9).mono ?_); rintro e w12 ⟨rfl, hb12⟩; have q12 : Below w.heap.size w w12 := q9.trans (hb12.mono q9.size))
            | (go_at_call 12; (with_reducible refine (hkey0 w12 q12).mono ?_); rintro e w13 ⟨rfl, hb13⟩; have q13 : Below w.heap.size w w13 := q12.trans (hb13.mono q12.size))
            | (go_at_call 10; (with_reducible refine (hhex0 w13 q13).mono ?_); rintro e w14 ⟨rfl, hb14⟩; have q14 : Below w.heap.size w w14 := q13.trans (hb14.mono q13.size)))
          go_ret
          exact ⟨hret_bool (by simp), q14⟩
end Go.Proofs.YtkgmkblcofedbaaDoor
