/-
  Of the proofs of layer 8 (elements of XML): the parts YLB YLT YI YRi. No conditions.
-/
import Derived.Test.YtklcjimmbkpbdaaGreatDoorZ23
import Derived.Test.YtklcjimmbkpbdaaGreatDoorZ25
import Derived.Test.YtklcjimmbkpbdaaGreatDoorZ17
import Derived.Lib.ConvBytes
import Derived.Deep.DeepCutAuto
import Derived.Test.YtklcjimmbkpbdaaGreatDoorZ02
import Derived.Test.YtklcjimmbkpbdaaGreatDoorZ07
import Derived.Test.YtklcjimmbkpbdaaGreatDoorZ20
namespace Go.Proofs.YtklcjimmbkpbdaaGreatDoor
open Go.RowKit
open Go.Lib

def cutA (A : Option Addr) (c i : Nat) : Option Addr := if c = i then A else A.map fun a => a.add (i * 1)
theorem size_u8 (w : World) : (Go.sizeOf 5).run Tryz.prog w = .ok 1 w := size_of (by kernel_rfl) w
theorem cut_upto (A : Option Addr) (n c i : Nat) (hi : i ≤ c) (U : World) : (Instr.slice 22 (.slice A n c) none (some (.int .i64 (i : Int))) none).run Tryz.prog U = .ok (.slice (cutA A c 0) i c) U := by
  have he : Tryz.prog.elem 22 = 5 := by kernel_rfl
  rw [run_slice_h U 22 A n c (by rw [he]; exact Tryz.underlying22) .i64 (i : Int) (by omega) (by omega), he, size_u8]
  rfl
theorem RB.cut {w : World} {A : Option Addr} {L : List UInt8} {c : Nat} (h : RB w A L) (k : Nat) (hk : k ≤ L.length) (hc : L.length ≤ c) : RB w (cutA A c 0) (L.take k) := fun hz => by
  rw [List.length_take] at hz
  obtain ⟨b, off, rfl, hbl, hcs⟩ := h (by omega)
  refine ⟨b, off, ?_, hbl, fun j hj => ?_⟩
  · unfold cutA
    rw [if_neg (by omega)]
    simp [Addr.add]
  · rw [List.length_take] at hj
    have := hcs j (by omega)
    rw [this]
    simp [bf, List.getD, show j < k by omega]
theorem add8 (a b : Bt) (h : a.length + b.length ≤ 9223372036854775807) (r : Bt) (hr : a ++ b = r) (W : World) : (Op.stringOp .add (bs a) (bs b)).run Tryz.prog W = .ok (.string (bs r)) W := by
  rw [run_string_add_sum W _ _ (by rw [bs_size, bs_size]; exact h), ← bs_app, hr]
theorem conv_str8 (w : World) (l : Bt) : ∃ C W3, (convert 9 22 (.string (bs l))).run Tryz.prog w = .ok (.slice (some ⟨w.heap.size, 0, none⟩) l.length C) W3 ∧ Below w.heap.size w W3 ∧ RB W3 (some ⟨w.heap.size, 0, none⟩) l := by
  have h := Lib.run_convert_string_bytes (P := Tryz.prog) w 9 22 5 (bs l) Tryz.underlying9 Tryz.underlying22 Tryz.underlying5
  rw [bs_size] at h
  refine ⟨_, _, h, ⟨rfl, rfl, rfl, by rw [bytesWorld_size]; omega, fun k hk => bytesWorld_at_old w _ _ k hk⟩, fun _ => ⟨w.heap.size, 0, rfl, by rw [bytesWorld_size]; omega, fun j hj => ?_⟩⟩
  rw [Nat.zero_add, bytesWorld_cell w _ _ j (by rw [bs_size]; exact hj), bs_list]
  rfl
theorem bom_take (b : Bt) (h : 3 ≤ b.length) : (b.take 3 == bomW) = bomW.isPrefixOf b := by
  rw [pre_take8, decide_eq_true (show bomW.length ≤ b.length from h), Bool.true_and]
  rfl
theorem bom_short (b : Bt) (h : ¬ 3 ≤ b.length) : bomW.isPrefixOf b = false := by
  cases hp : bomW.isPrefixOf b with
  | false => rfl
  | true =>
    have := (List.isPrefixOf_iff_prefix.1 hp).length_le
    exact absurd this h
def aheadB (b : Bt) (m : Nat) : Bt := if bomW.isPrefixOf b = true then [] else aheadR m
theorem remarks_aheadB {b : Bt} {v : XV} (h : parseX b = (v, 0)) (hb : b.length ≤ 3000) (m : Nat) (hm : m ≤ 8) : parseX (aheadB b m ++ b ++ behindR m) = (v, 0) ∧ parseX (b ++ zW) = (zeroX, 70) := parse_remarks h hb m hm
theorem aheadB_len (b : Bt) (m : Nat) : (aheadB b m).length ≤ 10 * m := by
  unfold aheadB
  split
  · exact Nat.zero_le _
  · exact (ahead_skips m).2.2.2.2.1
set_option maxRecDepth 100000 in
set_option maxHeartbeats 16000000 in
theorem law_remarks {A : Option Addr} {n c : Nat} {b : Bt} {nb : Int} {w : World} (hn : b.length = n) (hc : n ≤ c) (hb : RB w A b) (hm : ML w) (h0 : 0 ≤ nb) (h1 : nb ≤ 255) :
    Calls Tryz.prog 7 #[.slice A n c, .int .u8 nb] w (BoO true w) := by
  have HF := Lib.hid (first_any w hm)
  unfold BoO at HF
  have HN := Lib.hid hn
  have HB := Lib.hid hb
  have HM := Lib.hid hm
  clear hn hb hm
  by_cases hbig : 3000 < n
  · have hbi : (3000 : Int) < (n : Int) := by omega
    go_enter Tryz.func7, Tryz.ntmps7
    go_wp2_with fail
    refine HF.out.mono ?_
    rintro e w1 ⟨rfl, b1⟩
    go_wp2
    go_ret
    exact ⟨rfl, b1⟩
  · have hbi : ¬ (3000 : Int) < (n : Int) := by omega
    obtain ⟨m, hm⟩ : ∃ m : Nat, nb % 9 = (m : Int) := ⟨(nb % 9).toNat, by omega⟩
    have hm9 : m ≤ 8 := by omega
    have HMO := Lib.hid hm
    clear hm
    go_enter Tryz.func7, Tryz.ntmps7
    go_wp2_with fail
    refine HF.out.mono ?_
    rintro e w1 ⟨rfl, b1⟩
    have HB1 := Lib.hid b1
    clear HF b1
    go_wp2
    go_loopw [5, 6, 23] (fun s5 s6 i wr => ∃ j : Nat, j ≤ m ∧ i = .int .i64 j ∧ s5 = .string (bs (aheadR j)) ∧ s6 = .string (bs (behindR j)) ∧ Hid (Below w.heap.size w wr)) (fun _ _ i _ => m - (RowKit.intOf i).toNat)
    case atStart => exact ⟨0, Nat.zero_le _, rfl, rfl, rfl, HB1⟩
    case round =>
      clear HB1
      obtain ⟨j, hj, rfl, rfl, rfl, HB2⟩ := hrel
      by_cases hjm : j < m
      · have hlt : (j : Int) < nb % 9 := by have := HMO.out; omega
        have hal := (ahead_skips j).2.2.2.2
        have HAL := Lib.hid hal
        have e1 : aheadR (j + 1) = aheadR j ++ pieceR j := rfl
        have e2 : behindR (j + 1) = pieceR j ++ behindR j := rfl
        have hj9 : j ≤ 8 := by omega
        have HB3 : Hid (Below w.heap.size w (wr.alloc (.cells #[.string ⟨#[32]⟩, .string ⟨#[60, 33, 45, 45, 32, 114, 32, 45, 45, 62]⟩, .string ⟨#[60, 63, 105, 32, 100, 63, 62]⟩, .string ⟨#[10]⟩, .string ⟨#[60, 33, 45, 45, 45, 45, 62]⟩] 9))) := Lib.hid (HB2.out.trans ((below_alloc8 wr (.cells #[.string ⟨#[32]⟩, .string ⟨#[60, 33, 45, 45, 32, 114, 32, 45, 45, 62]⟩, .string ⟨#[60, 63, 105, 32, 100, 63, 62]⟩, .string ⟨#[10]⟩, .string ⟨#[60, 33, 45, 45, 45, 45, 62]⟩] 9 (0, 0))).mono HB2.out.size))
        obtain ⟨x, hx⟩ : ∃ x, pieceR j = x := ⟨_, rfl⟩
        obtain ⟨ah, hah⟩ : ∃ x, aheadR j = x := ⟨_, rfl⟩
        obtain ⟨bh, hbh⟩ : ∃ x, behindR j = x := ⟨_, rfl⟩
        obtain ⟨ah1, hah1⟩ : ∃ x, aheadR (j + 1) = x := ⟨_, rfl⟩
        obtain ⟨bh1, hbh1⟩ : ∃ x, behindR (j + 1) = x := ⟨_, rfl⟩
        rw [hx, hah, hah1] at e1
        rw [hx, hbh, hbh1] at e2
        rw [hah, hbh] at HAL
        rw [hah, hbh]
        have HE := Lib.hid (And.intro hah1 hbh1)
        have hmod : (j % 5 = 0 ∧ x = [32]) ∨ (j % 5 = 1 ∧ x = [60, 33, 45, 45, 32, 114, 32, 45, 45, 62]) ∨ (j % 5 = 2 ∧ x = [60, 63, 105, 32, 100, 63, 62]) ∨ (j % 5 = 3 ∧ x = [10]) ∨ (j % 5 = 4 ∧ x = [60, 33, 45, 45, 45, 45, 62]) := by
          rw [← hx]
          unfold pieceR
          have h5 := Nat.mod_lt j (show 5 > 0 by decide)
          rcases (by omega : j % 5 = 0 ∨ j % 5 = 1 ∨ j % 5 = 2 ∨ j % 5 = 3 ∨ j % 5 = 4) with h | h | h | h | h <;> simp [h]
        clear hal hx hah hbh hah1 hbh1
        rcases hmod with ⟨hr, rfl⟩ | ⟨hr, rfl⟩ | ⟨hr, rfl⟩ | ⟨hr, rfl⟩ | ⟨hr, rfl⟩
        · have hrI : (j : Int) % 5 = 0 := by omega
          have ha1 : ∀ W, (Op.stringOp .add (bs ah) ⟨#[32]⟩).run Tryz.prog W = .ok (.string (bs ah1)) W := fun W => add8 ah [32] (by have := HAL.out; simp only [List.length_cons, List.length_nil]; omega) _ e1.symm W
          have ha2 : ∀ W, (Op.stringOp .add ⟨#[32]⟩ (bs bh)).run Tryz.prog W = .ok (.string (bs bh1)) W := fun W => add8 [32] bh (by have := HAL.out; simp only [List.length_cons, List.length_nil]; omega) _ e2.symm W
          clear hr e1 e2
          go_wp2
          go_roundw
          case rel => exact ⟨j + 1, by omega, by go_num, by rw [HE.out.1], by rw [HE.out.2], HB3⟩
          case measure => simp [RowKit.intOf]; omega
        · have hrI : (j : Int) % 5 = 1 := by omega
          have ha1 : ∀ W, (Op.stringOp .add (bs ah) ⟨#[60, 33, 45, 45, 32, 114, 32, 45, 45, 62]⟩).run Tryz.prog W = .ok (.string (bs ah1)) W := fun W => add8 ah [60, 33, 45, 45, 32, 114, 32, 45, 45, 62] (by have := HAL.out; simp only [List.length_cons, List.length_nil]; omega) _ e1.symm W
          have ha2 : ∀ W, (Op.stringOp .add ⟨#[60, 33, 45, 45, 32, 114, 32, 45, 45, 62]⟩ (bs bh)).run Tryz.prog W = .ok (.string (bs bh1)) W := fun W => add8 [60, 33, 45, 45, 32, 114, 32, 45, 45, 62] bh (by have := HAL.out; simp only [List.length_cons, List.length_nil]; omega) _ e2.symm W
          clear hr e1 e2
          go_wp2
          go_roundw
          case rel => exact ⟨j + 1, by omega, by go_num, by rw [HE.out.1], by rw [HE.out.2], HB3⟩
          case measure => simp [RowKit.intOf]; omega
        · have hrI : (j : Int) % 5 = 2 := by omega
          have ha1 : ∀ W, (Op.stringOp .add (bs ah) ⟨#[60, 63, 105, 32, 100, 63, 62]⟩).run Tryz.prog W = .ok (.string (bs ah1)) W := fun W => add8 ah [60, 63, 105, 32, 100, 63, 62] (by have := HAL.out; simp only [List.length_cons, List.length_nil]; omega) _ e1.symm W
          have ha2 : ∀ W, (Op.stringOp .add ⟨#[60, 63, 105, 32, 100, 63, 62]⟩ (bs bh)).run Tryz.prog W = .ok (.string (bs bh1)) W := fun W => add8 [60, 63, 105, 32, 100, 63, 62] bh (by have := HAL.out; simp only [List.length_cons, List.length_nil]; omega) _ e2.symm W
          clear hr e1 e2
          go_wp2
          go_roundw
          case rel => exact ⟨j + 1, by omega, by go_num, by rw [HE.out.1], by rw [HE.out.2], HB3⟩
          case measure => simp [RowKit.intOf]; omega
        · have hrI : (j : Int) % 5 = 3 := by omega
          have ha1 : ∀ W, (Op.stringOp .add (bs ah) ⟨#[10]⟩).run Tryz.prog W = .ok (.string (bs ah1)) W := fun W => add8 ah [10] (by have := HAL.out; simp only [List.length_cons, List.length_nil]; omega) _ e1.symm W
          have ha2 : ∀ W, (Op.stringOp .add ⟨#[10]⟩ (bs bh)).run Tryz.prog W = .ok (.string (bs bh1)) W := fun W => add8 [10] bh (by have := HAL.out; simp only [List.length_cons, List.length_nil]; omega) _ e2.symm W
          clear hr e1 e2
          go_wp2
          go_roundw
          case rel => exact ⟨j + 1, by omega, by go_num, by rw [HE.out.1], by rw [HE.out.2], HB3⟩
          case measure => simp [RowKit.intOf]; omega
        · have hrI : (j : Int) % 5 = 4 := by omega
          have ha1 : ∀ W, (Op.stringOp .add (bs ah) ⟨#[60, 33, 45, 45, 45, 45, 62]⟩).run Tryz.prog W = .ok (.string (bs ah1)) W := fun W => add8 ah [60, 33, 45, 45, 45, 45, 62] (by have := HAL.out; simp only [List.length_cons, List.length_nil]; omega) _ e1.symm W
          have ha2 : ∀ W, (Op.stringOp .add ⟨#[60, 33, 45, 45, 45, 45, 62]⟩ (bs bh)).run Tryz.prog W = .ok (.string (bs bh1)) W := fun W => add8 [60, 33, 45, 45, 45, 45, 62] bh (by have := HAL.out; simp only [List.length_cons, List.length_nil]; omega) _ e2.symm W
          clear hr e1 e2
          go_wp2
          go_roundw
          case rel => exact ⟨j + 1, by omega, by go_num, by rw [HE.out.1], by rw [HE.out.2], HB3⟩
          case measure => simp [RowKit.intOf]; omega
      · obtain rfl : m = j := by omega
        have hge : ¬ (m : Int) < nb % 9 := by have := HMO.out; omega
        obtain ⟨V0, hV0⟩ : ∃ V, V = wr := ⟨_, rfl⟩
        subst hV0
        have HLN := Lib.hid (And.intro (aheadB_len b m) (ahead_skips m).2.2.2.2.2)
        obtain ⟨q, hq⟩ : ∃ q, bomW.isPrefixOf b = q := ⟨_, rfl⟩
        have HQ := Lib.hid hq
        go_upto_region 12 with fail
        go_cut [46] (fun s46 wx => s46 = .bool q ∧ Hid (Below w.heap.size w wx))
        case first =>
          by_cases h3 : 3 ≤ n
          · have h3i : (3 : Int) ≤ (n : Int) := by omega
            have hs : ∀ U, (Instr.slice 22 (.slice A n c) none (some (.int .i64 3)) none).run Tryz.prog U = .ok (.slice (cutA A c 0) 3 c) U := fun U => cut_upto A n c 3 (by omega) U
            have hcv : ∀ W, Below w.heap.size w W → (convert 22 9 (.slice (cutA A c 0) 3 c)).run Tryz.prog W = .ok (.string (bs (b.take 3))) W := fun W hW => conv_slice8 (l := b.take 3) c (by rw [List.length_take, HN.out]; omega) ((HB.out.below hW).cut 3 (by rw [HN.out]; exact h3) (by rw [HN.out]; exact hc))
            have hcv0 := hcv _ HB2.out
            have hbe : ((bs (b.take 3)).toList == [239, 187, 191]) = q := by rw [bs_toList, ← hq]; exact bom_take b (by rw [HN.out]; exact h3)
            clear hcv
            go_wp2
            go_meet
            exact ⟨rfl, HB2⟩
          · have h3i : ¬ (3 : Int) ≤ (n : Int) := by omega
            have hqf : q = false := by rw [← hq]; exact bom_short b (by rw [HN.out]; exact h3)
            subst hqf
            go_wp2
            go_meet
            exact ⟨rfl, HB2⟩
        case rest =>
          clear HB2 hq
          obtain ⟨rfl, HB2⟩ := hcut
          go_upto_if 46 with fail
          go_cut [5] (fun s5 wx => s5 = .string (bs (aheadB b m)) ∧ Hid (Below w.heap.size w wx))
          case first =>
            cases q with
            | true =>
              go_wp2
              go_meet
              exact ⟨by unfold aheadB; rw [if_pos HQ.out]; rfl, HB2⟩
            | false =>
              go_wp2
              go_meet
              exact ⟨by unfold aheadB; rw [if_neg (by rw [HQ.out]; decide)], HB2⟩
          case rest =>
            clear HB2
            obtain ⟨rfl, HB2⟩ := hcut
            obtain ⟨V0, hV0⟩ : ∃ V, V = wc := ⟨_, rfl⟩
            subst hV0
            have HP1 := Lib.hid (parse_any8 (c := c) HN.out (HB.out.below HB2.out) (HM.out.below HB2.out))
            unfold PaO at HP1
            obtain ⟨p, hp⟩ : ∃ p, parseX b = p := ⟨_, rfl⟩
            have HPE := Lib.hid hp
            have HCX : Hid (cX p.1 ≤ 70000) := Lib.hid (by rw [← hp]; exact parse_cX b)
            rw [hp] at HP1
            clear hp
            obtain ⟨v, z⟩ := p
            simp only at HP1 HCX
            go_wp2_with fail
            refine HP1.out.mono ?_
            clear HP1
            rintro e w2 ⟨b2, x, rfl, hx⟩
            have HX0 := Lib.hid hx
            obtain ⟨aA, ac, kA, kc, rfl⟩ := xr_one hx
            obtain ⟨X0, hX0⟩ : ∃ s, v.space = s := ⟨_, rfl⟩
            obtain ⟨X1, hX1⟩ : ∃ s, v.name = s := ⟨_, rfl⟩
            obtain ⟨X4, hX4⟩ : ∃ s, v.text = s := ⟨_, rfl⟩
            obtain ⟨nA, hnA⟩ : ∃ s, v.attrs.length = s := ⟨_, rfl⟩
            obtain ⟨nK, hnK⟩ : ∃ s, v.kids.length = s := ⟨_, rfl⟩
            rw [hX0, hX1, hX4, hnA, hnK] at HX0
            rw [hX0, hX1, hX4, hnA, hnK]
            have b23 := HB2.out.trans (b2.mono HB2.out.size)
            have b3 := below_alloc8 w2 (.cells #[sV X0, sV X1, .slice aA nA ac, .slice kA nK kc, sV X4] TNo (0, 0))
            have HVB := Lib.hid (Blk.new (.cells #[sV X0, sV X1, .slice aA nA ac, .slice kA nK kc, sV X4] TNo (0, 0)) w2)
            have HX3 := Lib.hid (HX0.out.below b3)
            have HB3 := Lib.hid (b23.trans (b3.mono b23.size))
            clear hx b2 b3 b23 HX0 HB2 hX0 hX1 hX4 hnA hnK
            by_cases hz0 : z = 0
            · subst hz0
              have HRM := Lib.hid (remarks_aheadB HPE.out (by have := HN.out; omega) m hm9)
              obtain ⟨M1, hM1⟩ : ∃ M, w2.heap.size = M := ⟨_, rfl⟩
              rw [hM1] at HVB
              go_upto_region 17 with fail
              obtain ⟨w3, hw3⟩ : ∃ W, w2.alloc (.cells #[sV X0, sV X1, .slice aA nA ac, .slice kA nK kc, sV X4] TNo) = W := ⟨_, rfl⟩
              try rw [hM1]
              rw [hw3] at HVB HX3 HB3 ⊢
              clear hw3 hM1
              have hcb := conv_slice8 c HN.out (HB.out.below HB3.out)
              have hl1 : (aheadB b m).length + b.length + (behindR m).length ≤ 4000 := by have h1 := HLN.out; have h2 := HN.out; omega
              have HL1 := Lib.hid hl1
              have ha1 := add8 (aheadB b m) b (by omega) _ rfl
              have ha2 := add8 (aheadB b m ++ b) (behindR m) (by rw [List.length_append]; omega) _ rfl
              obtain ⟨C4, w4, hcv, b4, hr4⟩ := conv_str8 w3 (aheadB b m ++ b ++ behindR m)
              have P2 := parse_any8 (c := C4) (n := (aheadB b m ++ b ++ behindR m).length) rfl hr4 (HM.out.below (HB3.out.trans (b4.mono HB3.out.size)))
              rw [HRM.out.1] at P2
              unfold PaO at P2
              have HP2 := Lib.hid P2
              have HV4 := Lib.hid ((Off.of_below b4).blk HVB.out (fun h => h))
              have HX4 := Lib.hid (HX3.out.below b4)
              have HB4 := Lib.hid (HB3.out.trans (b4.mono HB3.out.size))
              obtain ⟨r3, hr3⟩ : ∃ x, aheadB b m ++ b ++ behindR m = x := ⟨_, rfl⟩
              obtain ⟨r2, hr2⟩ : ∃ x, aheadB b m ++ b = x := ⟨_, rfl⟩
              obtain ⟨n3, hn3⟩ : ∃ x, r3.length = x := ⟨_, rfl⟩
              rw [hr3] at hcv HP2 ha2
              rw [hr2] at ha1 ha2
              rw [hn3] at hcv HP2
              clear P2 b4 hr4 HVB HX3 HB3 hr3 hr2 hn3 hl1
              go_wp2_with fail
              refine HP2.out.mono ?_
              clear HP2 hcv ha1 ha2 hcb
              rintro e w5 ⟨b5, y, rfl, hy⟩
              try simp only at hy
              have HY0 := Lib.hid hy
              obtain ⟨yA, yc, ykA, ykc, rfl⟩ := xr_one hy
              obtain ⟨Y0, hY0⟩ : ∃ s, v.space = s := ⟨_, rfl⟩
              obtain ⟨Y1, hY1⟩ : ∃ s, v.name = s := ⟨_, rfl⟩
              obtain ⟨Y4, hY4⟩ : ∃ s, v.text = s := ⟨_, rfl⟩
              obtain ⟨mA, hmA⟩ : ∃ s, v.attrs.length = s := ⟨_, rfl⟩
              obtain ⟨mK, hmK⟩ : ∃ s, v.kids.length = s := ⟨_, rfl⟩
              rw [hY0, hY1, hY4, hmA, hmK] at HY0
              rw [hY0, hY1, hY4, hmA, hmK]
              have b6 := below_alloc8 w5 (.cells #[sV Y0, sV Y1, .slice yA mA yc, .slice ykA mK ykc, sV Y4] TNo (0, 0))
              have b56 := b5.trans (b6.mono b5.size)
              have HW6 := Lib.hid (Blk.new (.cells #[sV Y0, sV Y1, .slice yA mA yc, .slice ykA mK ykc, sV Y4] TNo (0, 0)) w5)
              have HY6 := Lib.hid (HY0.out.below b6)
              have HV6 := Lib.hid ((Off.of_below b56).blk HV4.out (fun h => h))
              have HX6 := Lib.hid (HX4.out.below b56)
              have HB6 := Lib.hid (HB4.out.trans (b56.mono HB4.out.size))
              obtain ⟨M2, hM2⟩ : ∃ M, w5.heap.size = M := ⟨_, rfl⟩
              rw [hM2] at HW6
              clear hy b5 b6 b56 HY0 HV4 HX4 HB4 hY0 hY1 hY4 hmA hmK
              go_upto_region 18 with fail
              obtain ⟨w6, hw6⟩ : ∃ W, w5.alloc (.cells #[sV Y0, sV Y1, .slice yA mA yc, .slice ykA mK ykc, sV Y4] TNo) = W := ⟨_, rfl⟩
              try rw [hM2]
              rw [hw6] at HW6 HY6 HV6 HX6 HB6 ⊢
              clear hw6 hM2
              have hcb := conv_slice8 c HN.out (HB.out.below HB6.out)
              have ha3 : ∀ W, (Op.stringOp .add (bs b) ⟨#[60, 122, 47, 62]⟩).run Tryz.prog W = .ok (.string (bs (b ++ zW))) W := add8 b zW (by have := HN.out; simp only [zW, List.length_cons, List.length_nil]; omega) _ rfl
              obtain ⟨C7, w7, hcv, b7, hr7⟩ := conv_str8 w6 (b ++ zW)
              have P3 := parse_any8 (c := C7) (n := (b ++ zW).length) rfl hr7 (HM.out.below (HB6.out.trans (b7.mono HB6.out.size)))
              rw [HRM.out.2] at P3
              unfold PaO at P3
              have HP3 := Lib.hid P3
              have HV7 := Lib.hid ((Off.of_below b7).blk HV6.out (fun h => h))
              have HW7 := Lib.hid ((Off.of_below b7).blk HW6.out (fun h => h))
              have HX7 := Lib.hid (HX6.out.below b7)
              have HY7 := Lib.hid (HY6.out.below b7)
              have HB7 := Lib.hid (HB6.out.trans (b7.mono HB6.out.size))
              obtain ⟨r4, hr4⟩ : ∃ x, b ++ zW = x := ⟨_, rfl⟩
              obtain ⟨n4, hn4⟩ : ∃ x, r4.length = x := ⟨_, rfl⟩
              rw [hr4] at hcv HP3 ha3
              rw [hn4] at hcv HP3
              clear P3 b7 hr7 HV6 HW6 HX6 HY6 HB6 hr4 hn4
              go_wp2_with fail
              refine HP3.out.mono ?_
              clear HP3 hcv ha3 hcb
              rintro e w8 ⟨b8, u, rfl, hu⟩
              try simp only at hu
              obtain ⟨uA, uc, ukA, ukc, rfl⟩ := xr_one hu
              obtain ⟨U0, hU0⟩ : ∃ s, zeroX.space = s := ⟨_, rfl⟩
              obtain ⟨U1, hU1⟩ : ∃ s, zeroX.name = s := ⟨_, rfl⟩
              obtain ⟨U4, hU4⟩ : ∃ s, zeroX.text = s := ⟨_, rfl⟩
              obtain ⟨oA, hoA⟩ : ∃ s, zeroX.attrs.length = s := ⟨_, rfl⟩
              obtain ⟨oK, hoK⟩ : ∃ s, zeroX.kids.length = s := ⟨_, rfl⟩
              rw [hU0, hU1, hU4, hoA, hoK]
              have b9 := below_alloc8 w8 (.cells #[sV U0, sV U1, .slice uA oA uc, .slice ukA oK ukc, sV U4] TNo (0, 0))
              have b89 := b8.trans (b9.mono b8.size)
              have v9 := (Off.of_below b89).blk HV7.out (fun h => h)
              have w9 := (Off.of_below b89).blk HW7.out (fun h => h)
              have i0 := v9.cell 0
              have i1 := v9.cell 1
              have i2 := v9.cell 2
              have i3 := v9.cell 3
              have i4 := v9.cell 4
              have j0 := w9.cell 0
              have j1 := w9.cell 1
              have j2 := w9.cell 2
              have j3 := w9.cell 3
              have j4 := w9.cell 4
              have HSM := Lib.hid (same_any (Nat.le_trans HCX.out (by decide)) (HX7.out.below b89) (HY7.out.below b89))
              unfold BoO at HSM
              have HB9 := Lib.hid (HB7.out.trans (b89.mono HB7.out.size))
              clear hu hU0 hU1 hU4 hoA hoK b8 b9 b89 v9 w9 HV7 HW7 HX7 HY7 HB7
              go_wp2_with fail
              refine HSM.out.mono ?_
              rintro e w10 ⟨rfl, b10⟩
              have HBE := Lib.hid (HB9.out.trans (b10.mono HB9.out.size))
              clear b10
              go_wp2
              go_ret
              exact BoO.of rfl HBE.out
            · have hz1 : (z == 0) = false := by rw [beq_eq_false_iff_ne]; exact hz0
              have hz2 : (z != 0) = true := by rw [bne, hz1]; rfl
              go_wp2
              go_ret
              exact BoO.of rfl HB3.out
      end Go.Proofs.YtklcjimmbkpbdaaGreatDoor
namespace Go.Proofs.YtklcjimmbkpbdaaGreatDoor
open Go.RowKit
open Go.Lib

theorem nodeT_inner (t : Bt) : innerX (nodeT t) = t := by
  unfold nodeT
  rw [innerX, if_neg (by decide)]
  by_cases h : t = []
  · rw [if_pos h, innersX, h]
  · rw [if_neg h, innersX, innersX, List.append_nil]
    unfold textX
    rw [innerX, if_pos rfl]
theorem nodeT_val (t : Bt) : valX (nodeT t) [98] = t := by
  unfold valX nodeT
  show valA [([], [98], t)] [98] = t
  rw [valA, if_pos ⟨rfl, rfl⟩]
theorem nodeT_w (t : Bt) : wX (nodeT t) ≤ 2 * t.length + 10 := by
  rw [wX_eq]
  unfold nodeT
  simp only [XV.space, XV.name, XV.text, XV.attrs, XV.kids, wA, List.map_cons, List.map_nil, List.sum_cons, List.sum_nil, List.length_cons, List.length_nil]
  by_cases h : t = []
  · rw [if_pos h, wXs]; omega
  · rw [if_neg h, wXs, wXs, wX_eq]
    simp only [textX, XV.space, XV.name, XV.text, XV.attrs, XV.kids, wA, wXs, List.map_nil, List.sum_nil, List.length_nil]
    omega
theorem nodeT_pr {t : Bt} (h : openB t = true) : prX (nodeT t) = printX (nodeT t) [] ∧ prEX (nodeT t) = 0 := by
  unfold prX prEX
  rw [nodeT_right h]
  exact ⟨rfl, rfl⟩
theorem rc_one {w : World} {A : Nat} {t : Bt} (h : Blk A (.cells #[sV [], sV [98], sV t] TA3 (0, 0)) w) : RC w (fun _ => True) (some ⟨A, 0, none⟩) (cA [([], [98], t)]) := fun _ => ⟨A, 0, rfl, trivial, h.lt, fun j u hj => by
  have e : cA [([], [98], t)] = [sV [], sV [98], sV t] := rfl
  rw [e] at hj
  rw [Nat.zero_add, h.cell j]
  simpa using hj⟩
theorem nodeT_nil {w : World} {A : Nat} (h : Blk A (.cells #[sV [], sV [98], sV []] TA3 (0, 0)) w) : XR w (fun _ => True) (nodeT []) (.agg #[sV [], sV [97], .slice (some ⟨A, 0, none⟩) 1 1, .slice none 0 0, sV []]) := by
  unfold nodeT
  rw [if_pos rfl]
  exact XR.of (aA := some ⟨A, 0, none⟩) (kA := none) (ac := 1) (kc := 0) (rc_one h) (fun h => absurd h (Nat.lt_irrefl _))
theorem nodeT_cons {w : World} {A K : Nat} {t : Bt} (ht : t ≠ []) (h : Blk A (.cells #[sV [], sV [98], sV t] TA3 (0, 0)) w) (hk : Blk K (.cells #[sV [], sV [], .slice none 0 0, .slice none 0 0, sV t] TNo (0, 0)) w) : XR w (fun _ => True) (nodeT t) (.agg #[sV [], sV [97], .slice (some ⟨A, 0, none⟩) 1 1, .slice (some ⟨K, 0, none⟩) 1 1, sV []]) := by
  unfold nodeT
  rw [if_neg ht]
  refine XR.of (aA := some ⟨A, 0, none⟩) (kA := some ⟨K, 0, none⟩) (ac := 1) (kc := 1) (rc_one h) (fun _ => ⟨K, 0, rfl, trivial, hk.lt, ?_⟩)
  rw [XRl, XRl]
  exact ⟨⟨_, _, _, _, _, hk.cell 0, hk.cell 1, hk.cell 2, hk.cell 3, hk.cell 4, xr_text w _ t⟩, trivial⟩
theorem plain8_any (s : Bt) (hs : s.length ≤ 1000000) (W : World) : Calls Tryz.prog 26 #[.string (bs s)] W (fun e w' => e = .returned (.string (bs (enc ((pts s).filter inXml)))) ∧ Below W.heap.size W w') := by
  have := rplain_any (bs s) W (by rw [bs_size]; exact hs)
  rw [bs_list] at this
  exact this
theorem plain_lines (s : Bt) : PTn s.length (linesL (enc ((pts s).filter inXml))) := by
  refine (lines_enc _ (fun z hz => pts_allPt s z (List.mem_filter.1 hz).1) (fun z hz => (List.mem_filter.1 hz).2)).mono ?_
  have h2 := List.length_filter_le inXml (pts s)
  have h3 := pts_length_le s
  omega
set_option maxRecDepth 100000 in
set_option maxHeartbeats 16000000 in
theorem law_texts {s : Bt} {w : World} (hm : ML w) : Calls Tryz.prog 8 #[.string (bs s)] w (BoO true w) := by
  have HF := Lib.hid (first_any w hm)
  unfold BoO at HF
  have HM := Lib.hid hm
  clear hm
  obtain ⟨n, hn⟩ : ∃ n, s.length = n := ⟨_, rfl⟩
  have hsz : (bs s).size = n := by rw [bs_size, hn]
  by_cases hbig : 2000 < n
  · have hbi : (2000 : Int) < (n : Int) := by omega
    go_enter Tryz.func8, Tryz.ntmps8
    go_wp2_with fail
    refine HF.out.mono ?_
    rintro e w1 ⟨rfl, b1⟩
    go_wp2
    go_ret
    exact ⟨rfl, b1⟩
  · have hbi : ¬ (2000 : Int) < (n : Int) := by omega
    have HPL := Lib.hid (fun W => plain8_any s (by omega) W)
    have hpn := plain_lines s
    obtain ⟨q, hq⟩ : ∃ q, enc ((pts s).filter inXml) = q := ⟨_, rfl⟩
    have hql : q.length ≤ 8000 := by
      rw [← hq]
      have h1 := enc_length_le ((pts s).filter inXml)
      have h2 := List.length_filter_le inXml (pts s)
      have h3 := pts_length_le s
      omega
    rw [hq] at hpn HPL
    have hop := open_of hpn (lines_no13 q)
    have HLI := Lib.hid (fun W => rlines_any q W (by omega))
    have hql2 : (linesL q).length ≤ 8000 := by have := lines_le q; omega
    obtain ⟨t, ht⟩ : ∃ t, linesL q = t := ⟨_, rfl⟩
    rw [ht] at hop HLI hql2 hpn
    have HBK := Lib.hid (nodeT_back hop (hpn.mono (by omega)))
    have hpr := nodeT_pr hop
    have HPR : Hid (∀ (W : World) (x : Value) (T : Nat → Prop), XR W T (nodeT t) x → ML W → Calls Tryz.prog 15 #[x] W (fun e w' => e = .returned (.tuple #[.string (bs (printX (nodeT t) [])), .int .i64 0]) ∧ Below W.heap.size W w')) := Lib.hid (fun W x T hx hM => by
      have := print_any8 hx (by have := nodeT_w t; omega) hM
      rw [hpr.1, hpr.2] at this
      exact this)
    have HIN : Hid (∀ (W : World) (x : Value) (T : Nat → Prop), XR W T (nodeT t) x → Calls Tryz.prog 23 #[x] W (fun e w' => e = .returned (.string (bs t)) ∧ Below W.heap.size W w')) := Lib.hid (fun W x T hx => by
      have := inner_any hx (by have := nodeT_w t; omega)
      rw [nodeT_inner] at this
      exact this)
    have HVA : Hid (∀ (W : World) (x : Value) (T : Nat → Prop), XR W T (nodeT t) x → Calls Tryz.prog 21 #[x, .string ⟨#[98]⟩] W (fun e w' => e = .returned (.string (bs t)) ∧ Below W.heap.size W w')) := Lib.hid (fun W x T hx => by
      have := value8_any hx (by have := nodeT_w t; omega) [98]
      rw [nodeT_val] at this
      exact this)
    have HSM : Hid (∀ (W : World) (x y : Value) (T U : Nat → Prop), XR W T (nodeT t) x → XR W U (nodeT t) y → Calls Tryz.prog 12 #[x, y] W (fun e w' => e = .returned (.bool true) ∧ Below W.heap.size W w')) := Lib.hid (fun W x y T U hx hy => same_any (by have := nodeT_w t; have := cX_wX (nodeT t); omega) hx hy)
    have htt : ((bs t).toList == (bs t).toList) = true := beq_self_eq_true _
    clear hq ht hpr hpn hql
    go_enter Tryz.func8, Tryz.ntmps8
    go_wp2_with fail
    refine HF.out.mono ?_
    rintro e w1 ⟨rfl, b1⟩
    have HB1 := Lib.hid b1
    clear HF b1
    go_wp2_with fail
    refine (HPL.out _).mono ?_
    rintro e w2 ⟨rfl, b2⟩
    have HB2 := Lib.hid (HB1.out.trans (b2.mono HB1.out.size))
    clear b2 HB1
    go_wp2_with fail
    refine (HLI.out _).mono ?_
    rintro e w3 ⟨rfl, b3⟩
    have HB3 := Lib.hid (HB2.out.trans (b3.mono HB2.out.size))
    clear b3 HB2 HPL HLI
    obtain ⟨A, hA⟩ : ∃ A, w3.heap.size = A := ⟨_, rfl⟩
    have bA := below_alloc8 w3 (.cells #[.string ⟨#[]⟩, .string ⟨#[98]⟩, .string (bs t)] TA3 (0, 0))
    have hAB := Blk.new (.cells #[.string ⟨#[]⟩, .string ⟨#[98]⟩, .string (bs t)] TA3 (0, 0)) w3
    have bN := below_alloc8 (w3.alloc (.cells #[.string ⟨#[]⟩, .string ⟨#[98]⟩, .string (bs t)] TA3 (0, 0))) (.cells #[.string ⟨#[]⟩, .string ⟨#[97]⟩, .slice (some ⟨A, 0, none⟩) 1 1, .slice none 0 0, .string ⟨#[]⟩] TNo (0, 0))
    have hNB := Blk.new (.cells #[.string ⟨#[]⟩, .string ⟨#[97]⟩, .slice (some ⟨A, 0, none⟩) 1 1, .slice none 0 0, .string ⟨#[]⟩] TNo (0, 0)) (w3.alloc (.cells #[.string ⟨#[]⟩, .string ⟨#[98]⟩, .string (bs t)] TA3 (0, 0)))
    have hAB2 := (Off.of_below bN).blk hAB (fun h => h)
    have hsA : (w3.alloc (.cells #[.string ⟨#[]⟩, .string ⟨#[98]⟩, .string (bs t)] TA3 (0, 0))).heap.size = A + 1 := by simp [hA]
    rw [hsA] at hNB
    rw [hA] at hAB2
    have HB5 := Lib.hid (HB3.out.trans ((bA.trans (bN.mono bA.size)).mono HB3.out.size))
    have HAB := Lib.hid hAB2
    have HNB := Lib.hid hNB
    clear bA hAB bN hNB hAB2 hsA
    by_cases h0 : t = []
    · have hs0 : (bs t).toList = [] := by rw [bs_toList]; exact h0
      have HXR : Hid (XR ((w3.alloc (.cells #[.string ⟨#[]⟩, .string ⟨#[98]⟩, .string (bs t)] TA3 (0, 0))).alloc (.cells #[.string ⟨#[]⟩, .string ⟨#[97]⟩, .slice (some ⟨A, 0, none⟩) 1 1, .slice none 0 0, .string ⟨#[]⟩] TNo (0, 0))) (fun _ => True) (nodeT t) (.agg #[.string ⟨#[]⟩, .string ⟨#[97]⟩, .slice (some ⟨A, 0, none⟩) 1 1, .slice none 0 0, .string ⟨#[]⟩])) := Lib.hid (by
        have h := HAB.out
        rw [h0] at h ⊢
        exact nodeT_nil h)
      clear h0
      go_upto_region 9 with fail
      generalize (w3.alloc (.cells #[.string ⟨#[]⟩, .string ⟨#[98]⟩, .string (bs t)] TA3 (0, 0))).alloc (.cells #[.string ⟨#[]⟩, .string ⟨#[97]⟩, .slice (some ⟨A, 0, none⟩) 1 1, .slice none 0 0, .string ⟨#[]⟩] TNo (0, 0)) = w5 at *
      have i0 := HNB.out.cell 0
      have i1 := HNB.out.cell 1
      have i2 := HNB.out.cell 2
      have i3 := HNB.out.cell 3
      have i4 := HNB.out.cell 4
      have HP1 := Lib.hid (HPR.out _ _ _ HXR.out (HM.out.below HB5.out))
      go_wp2_with fail
      refine HP1.out.mono ?_
      rintro e w6 ⟨rfl, b6⟩
      obtain ⟨C7, w7, hcv, b7, hr7⟩ := conv_str8 w6 (printX (nodeT t) [])
      have hB6 := HB5.out.trans (b6.mono HB5.out.size)
      have hB7 := hB6.trans (b7.mono hB6.size)
      have P2 := parse_any8 (c := C7) (n := (printX (nodeT t) []).length) rfl hr7 (HM.out.below hB7)
      rw [HBK.out] at P2
      unfold PaO at P2
      have HP2 := Lib.hid P2
      have b67 := b6.trans (b7.mono b6.size)
      have HX7 := Lib.hid (HXR.out.below b67)
      have HN7 := Lib.hid ((Off.of_below b67).blk HNB.out (fun h => h))
      have HB7 := Lib.hid hB7
      obtain ⟨pl, hpl⟩ : ∃ x, printX (nodeT t) [] = x := ⟨_, rfl⟩
      rw [hpl] at hcv HP2 ⊢
      obtain ⟨n7, hn7⟩ : ∃ x, pl.length = x := ⟨_, rfl⟩
      rw [hn7] at hcv HP2
      clear P2 b6 b7 hr7 hB6 hB7 b67 HXR HNB HB5 hpl hn7 HP1 i0 i1 i2 i3 i4
      go_wp2_with fail
      refine HP2.out.mono ?_
      clear HP2 hcv
      rintro e w8 ⟨b8, y, rfl, hy⟩
      try simp only at hy
      have HY0 := Lib.hid hy
      obtain ⟨yA, yc, ykA, ykc, rfl⟩ := xr_one hy
      obtain ⟨Y0, hY0⟩ : ∃ s, (nodeT t).space = s := ⟨_, rfl⟩
      obtain ⟨Y1, hY1⟩ : ∃ s, (nodeT t).name = s := ⟨_, rfl⟩
      obtain ⟨Y4, hY4⟩ : ∃ s, (nodeT t).text = s := ⟨_, rfl⟩
      obtain ⟨mA, hmA⟩ : ∃ s, (nodeT t).attrs.length = s := ⟨_, rfl⟩
      obtain ⟨mK, hmK⟩ : ∃ s, (nodeT t).kids.length = s := ⟨_, rfl⟩
      rw [hY0, hY1, hY4, hmA, hmK] at HY0
      rw [hY0, hY1, hY4, hmA, hmK]
      have b9 := below_alloc8 w8 (.cells #[sV Y0, sV Y1, .slice yA mA yc, .slice ykA mK ykc, sV Y4] TNo (0, 0))
      have b89 := b8.trans (b9.mono b8.size)
      have HV9 := Lib.hid (Blk.new (.cells #[sV Y0, sV Y1, .slice yA mA yc, .slice ykA mK ykc, sV Y4] TNo (0, 0)) w8)
      have HY9 := Lib.hid (HY0.out.below b9)
      have HX9 := Lib.hid (HX7.out.below b89)
      have HN9 := Lib.hid ((Off.of_below b89).blk HN7.out (fun h => h))
      have HB9 := Lib.hid (HB7.out.trans (b89.mono HB7.out.size))
      clear hy b8 b9 b89 HY0 HX7 HN7 HB7 hY0 hY1 hY4 hmA hmK
      have j0 := HV9.out.cell 0
      have j1 := HV9.out.cell 1
      have j2 := HV9.out.cell 2
      have j3 := HV9.out.cell 3
      have j4 := HV9.out.cell 4
      go_wp2_with fail
      refine (HIN.out _ _ _ HY9.out).mono ?_
      rintro e w10 ⟨rfl, b10⟩
      have HV10 := Lib.hid ((Off.of_below b10).blk HV9.out (fun h => h))
      have HN10 := Lib.hid ((Off.of_below b10).blk HN9.out (fun h => h))
      have HY10 := Lib.hid (HY9.out.below b10)
      have HX10 := Lib.hid (HX9.out.below b10)
      have HB10 := Lib.hid (HB9.out.trans (b10.mono HB9.out.size))
      clear b10 HV9 HN9 HY9 HX9 HB9 j0 j1 j2 j3 j4
      have j0 := HV10.out.cell 0
      have j1 := HV10.out.cell 1
      have j2 := HV10.out.cell 2
      have j3 := HV10.out.cell 3
      have j4 := HV10.out.cell 4
      go_wp2_with fail
      refine (HVA.out _ _ _ HY10.out).mono ?_
      rintro e w11 ⟨rfl, b11⟩
      have HV11 := Lib.hid ((Off.of_below b11).blk HV10.out (fun h => h))
      have HN11 := Lib.hid ((Off.of_below b11).blk HN10.out (fun h => h))
      have HY11 := Lib.hid (HY10.out.below b11)
      have HX11 := Lib.hid (HX10.out.below b11)
      have HB11 := Lib.hid (HB10.out.trans (b11.mono HB10.out.size))
      clear b11 HV10 HN10 HY10 HX10 HB10 j0 j1 j2 j3 j4
      have j0 := HV11.out.cell 0
      have j1 := HV11.out.cell 1
      have j2 := HV11.out.cell 2
      have j3 := HV11.out.cell 3
      have j4 := HV11.out.cell 4
      have i0 := HN11.out.cell 0
      have i1 := HN11.out.cell 1
      have i2 := HN11.out.cell 2
      have i3 := HN11.out.cell 3
      have i4 := HN11.out.cell 4
      go_wp2_with fail
      refine (HSM.out _ _ _ _ _ HY11.out HX11.out).mono ?_
      rintro e w12 ⟨rfl, b12⟩
      have HBE := Lib.hid (HB11.out.trans (b12.mono HB11.out.size))
      clear b12
      go_wp2
      go_ret
      exact BoO.of rfl HBE.out
    · have hs0 : ¬ (bs t).toList = [] := by rw [bs_toList]; exact h0
      have hs1 : (bs t).toList.isEmpty = false := by rw [bs_toList]; cases hq : t with | nil => exact absurd hq h0 | cons => rfl
      have hb0 : ((bs t).toList == []) = false := by rw [bs_toList]; exact beq_false_of_ne h0
      clear hs0 hs1 hb0
      go_upto_region 7 with fail
      generalize (w3.alloc (.cells #[.string ⟨#[]⟩, .string ⟨#[98]⟩, .string (bs t)] TA3 (0, 0))).alloc (.cells #[.string ⟨#[]⟩, .string ⟨#[97]⟩, .slice (some ⟨A, 0, none⟩) 1 1, .slice none 0 0, .string ⟨#[]⟩] TNo (0, 0)) = w4 at *
      have hs0 : ¬ (bs t).toList = [] := by rw [bs_toList]; exact h0
      have hs1 : (bs t).toList.isEmpty = false := by rw [bs_toList]; cases hq : t with | nil => exact absurd hq h0 | cons => rfl
      have hb0 : ((bs t).toList == []) = false := by rw [bs_toList]; exact beq_false_of_ne h0
      have bK := below_alloc8 w4 (.cells #[.string ⟨#[]⟩, .string ⟨#[]⟩, .slice none 0 0, .slice none 0 0, .string (bs t)] TNo (0, 0))
      have hKB := Blk.new (.cells #[.string ⟨#[]⟩, .string ⟨#[]⟩, .slice none 0 0, .slice none 0 0, .string (bs t)] TNo (0, 0)) w4
      have hAB5 := (Off.of_below bK).blk HAB.out (fun h => h)
      have hNB5 := (Off.of_below bK).blk HNB.out (fun h => h)
      obtain ⟨K, hKe⟩ : ∃ K, w4.heap.size = K := ⟨_, rfl⟩
      have hNK : A + 1 < K := by have := HNB.out.lt; omega
      rw [hKe] at hKB
      have f3 := hNB5.free 3
      have c3 := hNB5.cell 3
      have oS := off_set8 (w4.alloc (.cells #[.string ⟨#[]⟩, .string ⟨#[]⟩, .slice none 0 0, .slice none 0 0, .string (bs t)] TNo (0, 0))) (A + 1) 3 (.slice (some ⟨K, 0, none⟩) 1 1)
      have hNB6 : Blk (A + 1) (.cells #[.string ⟨#[]⟩, .string ⟨#[97]⟩, .slice (some ⟨A, 0, none⟩) 1 1, .slice (some ⟨K, 0, none⟩) 1 1, .string ⟨#[]⟩] TNo (0, 0)) ((w4.alloc (.cells #[.string ⟨#[]⟩, .string ⟨#[]⟩, .slice none 0 0, .slice none 0 0, .string (bs t)] TNo (0, 0))).setCell ⟨A + 1, 3, none⟩ (.slice (some ⟨K, 0, none⟩) 1 1)) := by have := hNB5.set 3 (.slice (some ⟨K, 0, none⟩) 1 1); simpa using this
      have HXR := Lib.hid (nodeT_cons h0 (oS.blk hAB5 (fun e => by omega)) (oS.blk hKB (fun e => by omega)))
      have hAw : w.heap.size ≤ A := by have := HB3.out.size; omega
      have HB6 : Hid (Below w.heap.size w ((w4.alloc (.cells #[.string ⟨#[]⟩, .string ⟨#[]⟩, .slice none 0 0, .slice none 0 0, .string (bs t)] TNo (0, 0))).setCell ⟨A + 1, 3, none⟩ (.slice (some ⟨K, 0, none⟩) 1 1))) := Lib.hid (((Off.of_below (HB5.out.trans (bK.mono HB5.out.size))).trans oS (fun b hb => .inr (by omega))).below (fun _ h => h.elim))
      have HNB6 := Lib.hid hNB6
      have n0 := HNB.out.cell 3
      clear h0 bK hKB hAB5 hNB5 hNB6 oS HNB HAB HB5 hNK hAw
      go_upto_region 9 with fail
      try rw [hKe]
      generalize (w4.alloc (.cells #[.string ⟨#[]⟩, .string ⟨#[]⟩, .slice none 0 0, .slice none 0 0, .string (bs t)] TNo (0, 0))).setCell ⟨A + 1, 3, none⟩ (.slice (some ⟨K, 0, none⟩) 1 1) = w5 at *
      have HNB := Lib.hid HNB6.out
      have HB5 := Lib.hid HB6.out
      clear HNB6 HB6 f3 c3 n0 hKe
      have i0 := HNB.out.cell 0
      have i1 := HNB.out.cell 1
      have i2 := HNB.out.cell 2
      have i3 := HNB.out.cell 3
      have i4 := HNB.out.cell 4
      have HP1 := Lib.hid (HPR.out _ _ _ HXR.out (HM.out.below HB5.out))
      go_wp2_with fail
      refine HP1.out.mono ?_
      rintro e w6 ⟨rfl, b6⟩
      obtain ⟨C7, w7, hcv, b7, hr7⟩ := conv_str8 w6 (printX (nodeT t) [])
      have hB6 := HB5.out.trans (b6.mono HB5.out.size)
      have hB7 := hB6.trans (b7.mono hB6.size)
      have P2 := parse_any8 (c := C7) (n := (printX (nodeT t) []).length) rfl hr7 (HM.out.below hB7)
      rw [HBK.out] at P2
      unfold PaO at P2
      have HP2 := Lib.hid P2
      have b67 := b6.trans (b7.mono b6.size)
      have HX7 := Lib.hid (HXR.out.below b67)
      have HN7 := Lib.hid ((Off.of_below b67).blk HNB.out (fun h => h))
      have HB7 := Lib.hid hB7
      obtain ⟨pl, hpl⟩ : ∃ x, printX (nodeT t) [] = x := ⟨_, rfl⟩
      rw [hpl] at hcv HP2 ⊢
      obtain ⟨n7, hn7⟩ : ∃ x, pl.length = x := ⟨_, rfl⟩
      rw [hn7] at hcv HP2
      clear P2 b6 b7 hr7 hB6 hB7 b67 HXR HNB HB5 hpl hn7 HP1 i0 i1 i2 i3 i4
      go_wp2_with fail
      refine HP2.out.mono ?_
      clear HP2 hcv
      rintro e w8 ⟨b8, y, rfl, hy⟩
      try simp only at hy
      have HY0 := Lib.hid hy
      obtain ⟨yA, yc, ykA, ykc, rfl⟩ := xr_one hy
      obtain ⟨Y0, hY0⟩ : ∃ s, (nodeT t).space = s := ⟨_, rfl⟩
      obtain ⟨Y1, hY1⟩ : ∃ s, (nodeT t).name = s := ⟨_, rfl⟩
      obtain ⟨Y4, hY4⟩ : ∃ s, (nodeT t).text = s := ⟨_, rfl⟩
      obtain ⟨mA, hmA⟩ : ∃ s, (nodeT t).attrs.length = s := ⟨_, rfl⟩
      obtain ⟨mK, hmK⟩ : ∃ s, (nodeT t).kids.length = s := ⟨_, rfl⟩
      rw [hY0, hY1, hY4, hmA, hmK] at HY0
      rw [hY0, hY1, hY4, hmA, hmK]
      have b9 := below_alloc8 w8 (.cells #[sV Y0, sV Y1, .slice yA mA yc, .slice ykA mK ykc, sV Y4] TNo (0, 0))
      have b89 := b8.trans (b9.mono b8.size)
      have HV9 := Lib.hid (Blk.new (.cells #[sV Y0, sV Y1, .slice yA mA yc, .slice ykA mK ykc, sV Y4] TNo (0, 0)) w8)
      have HY9 := Lib.hid (HY0.out.below b9)
      have HX9 := Lib.hid (HX7.out.below b89)
      have HN9 := Lib.hid ((Off.of_below b89).blk HN7.out (fun h => h))
      have HB9 := Lib.hid (HB7.out.trans (b89.mono HB7.out.size))
      clear hy b8 b9 b89 HY0 HX7 HN7 HB7 hY0 hY1 hY4 hmA hmK
      have j0 := HV9.out.cell 0
      have j1 := HV9.out.cell 1
      have j2 := HV9.out.cell 2
      have j3 := HV9.out.cell 3
      have j4 := HV9.out.cell 4
      go_wp2_with fail
      refine (HIN.out _ _ _ HY9.out).mono ?_
      rintro e w10 ⟨rfl, b10⟩
      have HV10 := Lib.hid ((Off.of_below b10).blk HV9.out (fun h => h))
      have HN10 := Lib.hid ((Off.of_below b10).blk HN9.out (fun h => h))
      have HY10 := Lib.hid (HY9.out.below b10)
      have HX10 := Lib.hid (HX9.out.below b10)
      have HB10 := Lib.hid (HB9.out.trans (b10.mono HB9.out.size))
      clear b10 HV9 HN9 HY9 HX9 HB9 j0 j1 j2 j3 j4
      have j0 := HV10.out.cell 0
      have j1 := HV10.out.cell 1
      have j2 := HV10.out.cell 2
      have j3 := HV10.out.cell 3
      have j4 := HV10.out.cell 4
      go_wp2_with fail
      refine (HVA.out _ _ _ HY10.out).mono ?_
      rintro e w11 ⟨rfl, b11⟩
      have HV11 := Lib.hid ((Off.of_below b11).blk HV10.out (fun h => h))
      have HN11 := Lib.hid ((Off.of_below b11).blk HN10.out (fun h => h))
      have HY11 := Lib.hid (HY10.out.below b11)
      have HX11 := Lib.hid (HX10.out.below b11)
      have HB11 := Lib.hid (HB10.out.trans (b11.mono HB10.out.size))
      clear b11 HV10 HN10 HY10 HX10 HB10 j0 j1 j2 j3 j4
      have j0 := HV11.out.cell 0
      have j1 := HV11.out.cell 1
      have j2 := HV11.out.cell 2
      have j3 := HV11.out.cell 3
      have j4 := HV11.out.cell 4
      have i0 := HN11.out.cell 0
      have i1 := HN11.out.cell 1
      have i2 := HN11.out.cell 2
      have i3 := HN11.out.cell 3
      have i4 := HN11.out.cell 4
      go_wp2_with fail
      refine (HSM.out _ _ _ _ _ HY11.out HX11.out).mono ?_
      rintro e w12 ⟨rfl, b12⟩
      have HBE := Lib.hid (HB11.out.trans (b12.mono HB11.out.size))
      clear b12
      go_wp2
      go_ret
      exact BoO.of rfl HBE.out
end Go.Proofs.YtklcjimmbkpbdaaGreatDoor
namespace Go.Proofs.YtklcjimmbkpbdaaGreatDoor
open Go.RowKit
open Go.Lib

def nmB (f : Bool) (c : UInt8) : Bool := if f = true then begB c else goB c
set_option maxRecDepth 100000 in
theorem letter_any (c : UInt8) (f : Bool) (w : World) : Calls Tryz.prog 70 #[.int .u8 c.toNat, .bool f] w fun e w' => e = .returned (.bool (nmB f c)) ∧ w = w' := by
  have hc := UInt8.toNat_lt c
  have HE : Hid (nmB f c = (begB c || (!f && decide (48 ≤ c.toNat ∧ c.toNat ≤ 57 ∨ c.toNat = 45 ∨ c.toNat = 46)))) := Lib.hid (by cases f <;> simp [nmB, goB])
  unfold begB at HE
  generalize nmB f c = r at *
  cases f
  · go_enter Tryz.func70, Tryz.ntmps70
    go_wp2
    all_goals (go_ret; refine ⟨ret_b6 ?_, rfl⟩)
    all_goals (have h := HE.out; rw [h, Bool.eq_iff_iff]; simp; first | omega | (simp only [beq_iff_eq] at *; omega))
  · go_enter Tryz.func70, Tryz.ntmps70
    go_wp2
    all_goals (go_ret; refine ⟨ret_b6 ?_, rfl⟩)
    all_goals (have h := HE.out; rw [h, Bool.eq_iff_iff]; simp; first | omega | (simp only [beq_iff_eq] at *; omega))
theorem isName_of (s : Bt) (h : ∀ j (hj : j < s.length), nmB (decide (j = 0)) s[j] = true) : isNameL s = !(s == []) := by
  cases s with
  | nil => rfl
  | cons c r =>
    have h0 : begB c = true := h 0 (Nat.zero_lt_succ _)
    have h1 : r.all goB = true := List.all_eq_true.2 fun x hx => by
      obtain ⟨j, hj, rfl⟩ := List.getElem_of_mem hx
      have := h (j + 1) (by simpa using hj)
      simpa [nmB] using this
    show (begB c && r.all goB) = _
    rw [h0, h1]
    rfl
theorem isName_no (s : Bt) (j : Nat) (hj : j < s.length) (h : nmB (decide (j = 0)) s[j] = false) : isNameL s = false := by
  cases s with
  | nil => rfl
  | cons c r =>
    show (begB c && r.all goB) = false
    cases j with
    | zero => rw [show begB c = false from h]; rfl
    | succ j =>
      have h2 : goB (r[j]'(by simpa using hj)) = false := by simpa [nmB] using h
      rw [Bool.and_eq_false_iff]
      exact Or.inr (List.all_eq_false.2 ⟨_, List.getElem_mem _, by rw [h2]; exact Bool.false_ne_true⟩)
set_option maxRecDepth 100000 in
set_option maxHeartbeats 600000 in
theorem rname_any (s : Bt) (w : World) (hs : s.length ≤ 4000000000) : Calls Tryz.prog 39 #[.string (bs s)] w fun e w' => e = .returned (.bool (isNameL s)) ∧ w = w' := by
  have HX := Lib.hid (fun (k : Nat) (hk : k < s.length) (W : World) => byte_run8 s k _ hk rfl W)
  have HYes := Lib.hid (isName_of s)
  have HNo := Lib.hid (isName_no s)
  have HZ : Hid ((bs s).size = s.length) := Lib.hid (bs_size _)
  have hnil := eq_nil_bs s
  obtain ⟨n, hn⟩ : ∃ n, s.length = n := ⟨_, rfl⟩
  have HN := Lib.hid hn
  have hn9 : n ≤ 4000000000 := by omega
  rw [hn] at HZ
  clear hs hn
  obtain ⟨r, hr⟩ : ∃ r, isNameL s = r := ⟨_, rfl⟩
  rw [hr] at HYes HNo ⊢
  clear hr
  obtain ⟨S, hS⟩ : ∃ S, bs s = S := ⟨_, rfl⟩
  rw [hS] at HX HZ hnil ⊢
  clear hS
  have hz : S.size = n := HZ.out
  go_enter Tryz.func39, Tryz.ntmps39
  go_wp2
  go_loop [3] (fun i => ∃ k : Nat, k ≤ n ∧ i = .int .i64 k ∧ Hid (∀ j (hj : j < s.length), j < k → nmB (decide (j = 0)) s[j] = true)) (fun i => n - (RowKit.intOf i).toNat)
  case atStart => exact ⟨0, Nat.zero_le _, rfl, Lib.hid (fun _ _ h => absurd h (Nat.not_lt_zero _))⟩
  case round =>
    obtain ⟨k, hk, rfl, HA⟩ := hrel
    by_cases hlt : k < n
    · have hkl : k < s.length := by rw [HN.out]; exact hlt
      have hx : ∀ W : World, (Instr.index 9 (.string S) (.int .i64 k)).run Tryz.prog W = .ok (.int .u8 ((s[k]'hkl).toNat : Int)) W := fun W => HX.out k hkl W
      have HN1 := Lib.hid (HNo.out k hkl)
      have HT : Hid (nmB (decide (k = 0)) (s[k]'hkl) = true → ∀ j (hj : j < s.length), j < k + 1 → nmB (decide (j = 0)) s[j] = true) := Lib.hid (fun h j hj hj1 => by
        rcases Nat.lt_or_ge j k with h2 | h2
        · exact HA.out j hj h2
        · obtain rfl : j = k := by omega
          exact h)
      obtain ⟨d, hd⟩ : ∃ d, s[k]'hkl = d := ⟨_, rfl⟩
      rw [hd] at hx HT HN1
      clear hd HA
      have HL := Lib.hid (fun f W => letter_any d f W)
      by_cases hk0 : k = 0
      · subst hk0
        have hx0 : ∀ W : World, (Instr.index 9 (.string S) (.int .i64 0)).run Tryz.prog W = .ok (.int .u8 (d.toNat : Int)) W := hx
        have HL0 := Lib.hid (fun W => HL.out true W)
        rw [show decide ((0 : Nat) = 0) = true from rfl] at HT HN1
        obtain ⟨g, hg⟩ : ∃ g, nmB true d = g := ⟨_, rfl⟩
        rw [hg] at HL0 HT HN1
        clear hg
        cases g
        · have HQ := Lib.hid (HN1.out rfl)
          clear HN1 HT
          go_wp2_with (go_at_call 70; (with_reducible refine (HL0.out _).mono ?_); rintro e w1 ⟨rfl, rfl⟩)
          go_ret
          exact ⟨ret_b6 HQ.out.symm, rfl⟩
        · have HQ := Lib.hid (HT.out rfl)
          clear HN1 HT
          go_wp2_with (go_at_call 70; (with_reducible refine (HL0.out _).mono ?_); rintro e w1 ⟨rfl, rfl⟩)
          go_round
          case rel => exact ⟨1, by omega, by go_num, HQ⟩
          case measure => simp [RowKit.intOf]; omega
      · have hk1 : ¬ (k : Int) = 0 := by omega
        have hk2 : ((k : Int) == 0) = false := by simpa using hk1
        have HL0 := Lib.hid (fun W => HL.out false W)
        rw [show decide (k = 0) = false from decide_eq_false hk0] at HT HN1
        obtain ⟨g, hg⟩ : ∃ g, nmB false d = g := ⟨_, rfl⟩
        rw [hg] at HL0 HT HN1
        clear hg
        cases g
        · have HQ := Lib.hid (HN1.out rfl)
          clear HN1 HT
          go_wp2_with (go_at_call 70; (with_reducible refine (HL0.out _).mono ?_); rintro e w1 ⟨rfl, rfl⟩)
          go_ret
          exact ⟨ret_b6 HQ.out.symm, rfl⟩
        · have HQ := Lib.hid (HT.out rfl)
          clear HN1 HT
          go_wp2_with (go_at_call 70; (with_reducible refine (HL0.out _).mono ?_); rintro e w1 ⟨rfl, rfl⟩)
          go_round
          case rel => exact ⟨k + 1, by omega, by go_num, HQ⟩
          case measure => simp [RowKit.intOf]; omega
    · obtain rfl : n = k := by omega
      have HR := Lib.hid (HYes.out (fun j hj => HA.out j hj (by have := HN.out; omega)))
      clear HA
      by_cases h0 : s = []
      · have hnl : S.toList = [] := by rw [hnil]; exact h0
        go_wp2
        go_ret
        exact ⟨ret_b6 (by rw [HR.out, h0]; rfl), rfl⟩
      · have hnl : ¬ S.toList = [] := by rw [hnil]; exact h0
        have hnl2 : S.toList.isEmpty = false := by
          cases h : S.toList with
          | nil => exact absurd h hnl
          | cons => rfl
        go_wp2
        go_ret
        exact ⟨ret_b6 (by rw [HR.out]; simp [h0]), rfl⟩
theorem plainB_valid (s : Bt) (h : plainB s = true) : validD s = true := by
  have h1 : enc ((pts s).filter inXml) = s := by simpa [plainB] using h
  rw [← h1]
  exact valid_enc _ (fun z hz => pts_allPt s z (List.mem_filter.1 hz).1)
set_option maxRecDepth 100000 in
theorem rplain8_any (s : Bt) (w : World) (hs : s.length ≤ 1000000) : Calls Tryz.prog 13 #[.string (bs s)] w (BoO (plainB s) w) := by
  have HV0 := rvalid_any (bs s) w (by rw [bs_size]; exact hs)
  rw [bs_list] at HV0
  have HV := Lib.hid HV0
  have HP := Lib.hid (fun W => plain8_any s hs W)
  have HB := Lib.hid (plainB_valid s)
  have HE : Hid (plainB s = (enc ((pts s).filter inXml) == s)) := Lib.hid rfl
  obtain ⟨b, hb⟩ : ∃ b, plainB s = b := ⟨_, rfl⟩
  obtain ⟨v, hv⟩ : ∃ b, validD s = b := ⟨_, rfl⟩
  obtain ⟨t, ht⟩ : ∃ t, enc ((pts s).filter inXml) = t := ⟨_, rfl⟩
  rw [hb, hv] at HB
  rw [hb, ht] at HE
  rw [hb]
  rw [hv] at HV
  rw [ht] at HP
  clear hb hv ht HV0
  cases v
  · have HF : Hid (b = false) := Lib.hid (by cases b; rfl; exact (HB.out rfl).symm)
    clear HB HE HP
    go_enter Tryz.func13, Tryz.ntmps13
    go_wp2_with (go_at_call 35; (with_reducible refine HV.out.mono ?_); rintro e w1 ⟨rfl, b1⟩)
    go_ret
    exact BoO.of HF.out b1
  · by_cases hts : t = s
    · subst hts
      have HF : Hid (b = true) := Lib.hid (by rw [HE.out]; exact beq_self_eq_true _)
      clear HB HE
      go_enter Tryz.func13, Tryz.ntmps13
      go_wp2_with (first
        | (go_at_call 35; (with_reducible refine HV.out.mono ?_); rintro e w1 ⟨rfl, b1⟩; have HB1 := Lib.hid b1; clear b1)
        | (go_at_call 26; (with_reducible refine (HP.out _).mono ?_); rintro e w2 ⟨rfl, b2⟩; have HB2 := Lib.hid (HB1.out.trans (b2.mono HB1.out.size)); clear b2))
      go_ret
      exact BoO.of HF.out HB2.out
    · have HF : Hid (b = false) := Lib.hid (by rw [HE.out]; simpa using hts)
      have hne : ¬ bs t = bs s := fun h => hts (bs_inj h)
      have hne3 : ¬ (bs t).toList = (bs s).toList := by rw [bs_toList, bs_toList]; exact hts
      clear HB HE hts
      generalize bs t = T at *
      generalize bs s = S at *
      go_enter Tryz.func13, Tryz.ntmps13
      go_wp2_with (first
        | (go_at_call 35; (with_reducible refine HV.out.mono ?_); rintro e w1 ⟨rfl, b1⟩; have HB1 := Lib.hid b1; clear b1)
        | (go_at_call 26; (with_reducible refine (HP.out _).mono ?_); rintro e w2 ⟨rfl, b2⟩; have HB2 := Lib.hid (HB1.out.trans (b2.mono HB1.out.size)); clear b2))
      go_ret
      exact BoO.of (HF.out.trans (beq_eq_false_iff_ne.2 hne3).symm) HB2.out
theorem u8_ne13 {d : UInt8} (h : ¬ d = 13) : ¬ (d.toNat : Int) = 13 := fun hh => h (UInt8.toNat_inj.1 (show d.toNat = 13 by omega))
theorem open_no (s : Bt) (j : Nat) (hj : j < s.length) (h : s[j] = 13) : openB s = false := by
  have : s.contains 13 = true := List.contains_iff_mem.2 (h ▸ List.getElem_mem hj)
  unfold openB
  rw [this, Bool.not_true, Bool.and_false]
theorem open_yes (s : Bt) (h : ∀ j (hj : j < s.length), s[j] ≠ 13) : openB s = plainB s := by
  have : s.contains 13 = false := by
    rw [Bool.eq_false_iff]
    intro hc
    obtain ⟨j, hj, he⟩ := List.getElem_of_mem (List.contains_iff_mem.1 hc)
    exact h j hj he
  unfold openB
  rw [this, Bool.not_false, Bool.and_true]
set_option maxRecDepth 100000 in
set_option maxHeartbeats 600000 in
theorem ropen_any (s : Bt) (w : World) (hs : s.length ≤ 1000000) : Calls Tryz.prog 40 #[.string (bs s)] w (BoO (openB s) w) := by
  have HX := Lib.hid (fun (k : Nat) (hk : k < s.length) (W : World) => byte_run8 s k _ hk rfl W)
  have HP := Lib.hid (fun W => rplain8_any s W hs)
  unfold BoO at HP
  have HYes := Lib.hid (open_yes s)
  have HNo := Lib.hid (open_no s)
  have HZ : Hid ((bs s).size = s.length) := Lib.hid (bs_size _)
  obtain ⟨n, hn⟩ : ∃ n, s.length = n := ⟨_, rfl⟩
  have HN := Lib.hid hn
  have hn9 : n ≤ 1000000 := by omega
  rw [hn] at HZ
  clear hs hn
  obtain ⟨r, hr⟩ : ∃ r, openB s = r := ⟨_, rfl⟩
  obtain ⟨q, hq⟩ : ∃ r, plainB s = r := ⟨_, rfl⟩
  rw [hr] at HYes HNo ⊢
  rw [hq] at HYes HP
  clear hr hq
  obtain ⟨S, hS⟩ : ∃ S, bs s = S := ⟨_, rfl⟩
  rw [hS] at HX HZ HP ⊢
  clear hS
  have hz : S.size = n := HZ.out
  go_enter Tryz.func40, Tryz.ntmps40
  go_wp2
  go_loop [3] (fun i => ∃ k : Nat, k ≤ n ∧ i = .int .i64 k ∧ Hid (∀ j (hj : j < s.length), j < k → s[j] ≠ 13)) (fun i => n - (RowKit.intOf i).toNat)
  case atStart => exact ⟨0, Nat.zero_le _, rfl, Lib.hid (fun _ _ h => absurd h (Nat.not_lt_zero _))⟩
  case round =>
    obtain ⟨k, hk, rfl, HA⟩ := hrel
    by_cases hlt : k < n
    · have hkl : k < s.length := by rw [HN.out]; exact hlt
      have hx : ∀ W : World, (Instr.index 9 (.string S) (.int .i64 k)).run Tryz.prog W = .ok (.int .u8 ((s[k]'hkl).toNat : Int)) W := fun W => HX.out k hkl W
      by_cases h13 : s[k]'hkl = 13
      · have HQ := Lib.hid (HNo.out k hkl h13)
        have hx0 : ∀ W : World, (Instr.index 9 (.string S) (.int .i64 k)).run Tryz.prog W = .ok (.int .u8 13) W := by
          rw [h13] at hx
          exact hx
        clear hx h13
        go_wp2
        go_ret
        exact BoO.of HQ.out (Below.refl _ _)
      · have HQ : Hid (∀ j (hj : j < s.length), j < k + 1 → s[j] ≠ 13) := Lib.hid (fun j hj hj1 => by
          rcases Nat.lt_or_ge j k with h2 | h2
          · exact HA.out j hj h2
          · obtain rfl : j = k := by omega
            exact h13)
        obtain ⟨d, hd⟩ : ∃ d, s[k]'hkl = d := ⟨_, rfl⟩
        rw [hd] at hx h13
        have h13a : ¬ (d.toNat : Int) = 13 := u8_ne13 h13
        have h13b : ((d.toNat : Int) == 13) = false := by simpa using h13a
        clear hd HA h13
        go_wp2
        go_round
        case rel => exact ⟨k + 1, by omega, by go_num, HQ⟩
        case measure => simp [RowKit.intOf]; omega
    · obtain rfl : n = k := by omega
      have HR := Lib.hid (HYes.out (fun j hj => HA.out j hj (by have := HN.out; omega)))
      clear HA HNo HYes
      go_wp2_with (go_at_call 13; (with_reducible refine (HP.out _).mono ?_); rintro e w1 ⟨rfl, b1⟩)
      go_ret
      exact BoO.of HR.out b1
end Go.Proofs.YtklcjimmbkpbdaaGreatDoor
namespace Go.Proofs.YtklcjimmbkpbdaaGreatDoor
open Go.RowKit
open Go.Lib

theorem size_attr8 (W : World) : (Go.sizeOf TA3).run Tryz.prog W = .ok 3 W := size_of (by kernel_rfl) W
def cutT (A : Option Addr) (c : Nat) : Option Addr := if c = 0 then A else A.map fun a => a.add (0 * 3)
theorem cutT_eq (b o c : Nat) : cutT (some ⟨b, o, none⟩) c = some ⟨b, o, none⟩ := by
  unfold cutT
  split
  · rfl
  · rw [Nat.zero_mul]; show some (Addr.add ⟨b, o, none⟩ 0) = _; rw [Addr.add_mid]; rfl
theorem cut_attrs0 (A : Option Addr) (n c i : Nat) (hi : i ≤ c) (U : World) : (Instr.slice 24 (.slice A n c) none (some (.int .i64 (i : Int))) none).run Tryz.prog U = .ok (.slice (cutT A c) i c) U := by
  have he : Tryz.prog.elem 24 = TA3 := by kernel_rfl
  rw [run_slice_h U 24 A n c (by rw [he]; exact Tryz.underlying24) .i64 (i : Int) (by omega) (by omega), he, size_attr8]
  rfl
theorem cut_attrs (b o n c i : Nat) (hi : i ≤ c) (U : World) : (Instr.slice 24 (.slice (some ⟨b, o, none⟩) n c) none (some (.int .i64 (i : Int))) none).run Tryz.prog U = .ok (.slice (some ⟨b, o, none⟩) i c) U := by
  rw [cut_attrs0 _ _ _ _ hi, cutT_eq]
def RRiC (N : Nat) : Prop := ∀ (T : Nat → Prop) (v : XV) (x : Value) (w : World) (d : Nat), wX v ≤ N → d ≤ 24 → XK w T v x → Calls Tryz.prog 16 #[x, .int .i64 d] w (BoO (rightX (24 - d) v) w)
theorem attr_parts9 (a b c : Bt) : rightAttrB (a, b, c) = (a == [] && !(b == xmlnsW) && (isNameL b && openB b) && openB c) := rfl
theorem bs_ne {t : Bt} (h : t ≠ []) : ¬ (bs t).toList = [] ∧ (bs t).toList.isEmpty = false ∧ ((bs t).toList == []) = false := by
  rw [bs_toList]
  refine ⟨h, ?_, beq_false_of_ne h⟩
  cases t with | nil => exact absurd rfl h | cons => rfl
set_option maxRecDepth 100000 in
set_option maxHeartbeats 1000000 in
theorem rri_step {N : Nat} (hN9 : N ≤ 7999) (IH : RRiC N) : RRiC (N + 1) := fun T v x w d hN hd hx => by
  have hno := @rightX_no d v
  have hyes := @rightX_yes d v
  have hwe := wX_eq v
  obtain ⟨sp, nm, al, ks, tx⟩ := v
  obtain ⟨aA, ac, kA, kc, rfl, hcap, hR, hK⟩ := XK.attrs hx
  simp only [XV.attrs, XV.kids, XV.name, XV.space, XV.text] at hno hyes hwe
  have hlk := wXs_len ks
  have hla := wA_len al
  obtain ⟨nA, hnA⟩ : ∃ n, al.length = n := ⟨_, rfl⟩
  obtain ⟨nK, hnK⟩ : ∃ n, ks.length = n := ⟨_, rfl⟩
  rw [hnA] at hcap
  rw [hnA, hnK]
  obtain ⟨P, hP⟩ : ∃ P, w.heap.size = P := ⟨_, rfl⟩
  have hb1 := below_alloc8 w (.cells #[sV sp, sV nm, .slice aA nA ac, .slice kA nK kc, sV tx] TNo (0, 0))
  have hPb := Blk.new (.cells #[sV sp, sV nm, .slice aA nA ac, .slice kA nK kc, sV tx] TNo (0, 0)) w
  rw [hP] at hPb
  have HB0 := Lib.hid (And.intro hPb hb1)
  have HBB : Hid (∀ W W', (Blk P (.cells #[sV sp, sV nm, .slice aA nA ac, .slice kA nK kc, sV tx] TNo (0, 0)) W ∧ Below w.heap.size w W) → Below W.heap.size W W' → (Blk P (.cells #[sV sp, sV nm, .slice aA nA ac, .slice kA nK kc, sV tx] TNo (0, 0)) W' ∧ Below w.heap.size w W')) := Lib.hid (fun W W' h b => ⟨(Off.of_below b).blk h.1 (fun h => h), h.2.trans (b.mono h.2.size)⟩)
  obtain ⟨o, ho⟩ : ∃ o, rightX (24 - d) (.mk sp nm al ks tx) = o := ⟨_, rfl⟩
  rw [ho] at hno hyes ⊢
  have HNM := Lib.hid (fun W => rname_any nm W (by omega))
  have HO1 := Lib.hid (fun W => ropen_any nm W (by omega))
  have HO2 := Lib.hid (fun W => ropen_any sp W (by omega))
  unfold BoO at HO1 HO2
  have HR := Lib.hid hR
  have HK := Lib.hid hK
  have HNA := Lib.hid hnA
  have HNK := Lib.hid hnK
  have hnA9 : nA ≤ 8000 := by omega
  have hnK9 : nK ≤ 8000 := by omega
  have HWK : Hid (wXs ks ≤ N) := Lib.hid (by omega)
  have HWA : Hid (wA al ≤ 8000) := Lib.hid (by omega)
  have HIH := Lib.hid IH
  have HNO := Lib.hid hno
  have HYES := Lib.hid hyes
  have HCAP := Lib.hid hcap
  obtain ⟨b1, e1⟩ : ∃ b, isNameL nm = b := ⟨_, rfl⟩
  obtain ⟨b2, e2⟩ : ∃ b, openB nm = b := ⟨_, rfl⟩
  obtain ⟨b3, e3⟩ : ∃ b, openB sp = b := ⟨_, rfl⟩
  rw [e1] at HNM HNO HYES
  rw [e2] at HO1 HNO HYES
  rw [e3] at HO2 HNO HYES
  have HHD := Lib.hid hd
  clear hx hR hK hwe hlk hla hnA hnK IH hno hyes hPb hb1 hN hcap ho e1 e2 e3 hd
  cases b1 with
  | false =>
    have HF := Lib.hid (HNO.out (.inl rfl))
    go_enter Tryz.func16, Tryz.ntmps16
    have q0 := HB0.out.1.cell 0
    have q1 := HB0.out.1.cell 1
    have q4 := HB0.out.1.cell 4
    go_wp2_with (first | (go_at_call 39; (with_reducible refine (HNM.out _).mono ?_); rintro e w1 ⟨rfl, rfl⟩))
    go_ret
    exact BoO.of HF.out HB0.out.2
  | true =>
    cases b2 with
    | false =>
      have HF := Lib.hid (HNO.out (.inr (.inl rfl)))
      go_enter Tryz.func16, Tryz.ntmps16
      have q0 := HB0.out.1.cell 0
      have q1 := HB0.out.1.cell 1
      have q4 := HB0.out.1.cell 4
      go_wp2_with (first | (go_at_call 39; (with_reducible refine (HNM.out _).mono ?_); rintro e w1 ⟨rfl, rfl⟩) | (go_at_call 40; (with_reducible refine (HO1.out _).mono ?_); rintro e w1 ⟨rfl, b4⟩; have HB1 := Lib.hid (HBB.out _ _ HB0.out b4); clear q0 q1 q4; have q0 := HB1.out.1.cell 0; have q1 := HB1.out.1.cell 1; have q4 := HB1.out.1.cell 4; clear b4))
      go_ret
      exact BoO.of HF.out HB1.out.2
    | true =>
      cases b3 with
      | false =>
        have HF := Lib.hid (HNO.out (.inr (.inr (.inl rfl))))
        go_enter Tryz.func16, Tryz.ntmps16
        have q0 := HB0.out.1.cell 0
        have q1 := HB0.out.1.cell 1
        have q4 := HB0.out.1.cell 4
        go_wp2_with (first | (go_at_call 39; (with_reducible refine (HNM.out _).mono ?_); rintro e w1 ⟨rfl, rfl⟩) | (go_at_call 40; (with_reducible refine (HO1.out _).mono ?_); rintro e w1 ⟨rfl, b4⟩; have HB1 := Lib.hid (HBB.out _ _ HB0.out b4); clear q0 q1 q4; have q0 := HB1.out.1.cell 0; have q1 := HB1.out.1.cell 1; have q4 := HB1.out.1.cell 4; clear b4) | (go_at_call 40; (with_reducible refine (HO2.out _).mono ?_); rintro e w2 ⟨rfl, b5⟩; have HB2 := Lib.hid (HBB.out _ _ HB1.out b5); clear q0 q1 q4; have q0 := HB2.out.1.cell 0; have q1 := HB2.out.1.cell 1; have q2 := HB2.out.1.cell 2; have q4 := HB2.out.1.cell 4; clear b5))
        go_ret
        exact BoO.of HF.out HB2.out.2
      | true =>
        by_cases h4 : tx = []
        · have hs4 : (bs tx).toList = [] := by rw [bs_toList]; exact h4
          by_cases h5 : d = 24
          · have HF := Lib.hid (HNO.out (.inr (.inr (.inr (.inr h5)))))
            have hd24 : (d : Int) = 24 := by omega
            have hd25 : ((d : Int) == 24) = true := by simpa using hd24
            clear h4 h5
            go_enter Tryz.func16, Tryz.ntmps16
            have q0 := HB0.out.1.cell 0
            have q1 := HB0.out.1.cell 1
            have q4 := HB0.out.1.cell 4
            go_wp2_with (first | (go_at_call 39; (with_reducible refine (HNM.out _).mono ?_); rintro e w1 ⟨rfl, rfl⟩) | (go_at_call 40; (with_reducible refine (HO1.out _).mono ?_); rintro e w1 ⟨rfl, b4⟩; have HB1 := Lib.hid (HBB.out _ _ HB0.out b4); clear q0 q1 q4; have q0 := HB1.out.1.cell 0; have q1 := HB1.out.1.cell 1; have q4 := HB1.out.1.cell 4; clear b4) | (go_at_call 40; (with_reducible refine (HO2.out _).mono ?_); rintro e w2 ⟨rfl, b5⟩; have HB2 := Lib.hid (HBB.out _ _ HB1.out b5); clear q0 q1 q4; have q0 := HB2.out.1.cell 0; have q1 := HB2.out.1.cell 1; have q2 := HB2.out.1.cell 2; have q4 := HB2.out.1.cell 4; clear b5))
            go_ret
            exact BoO.of HF.out HB2.out.2
          · have hd24 : ¬ (d : Int) = 24 := by omega
            have hd25 : ((d : Int) == 24) = false := by simpa using hd24
            have hlt24 : d < 24 := by have := HHD.out; omega
            have HO := Lib.hid (HYES.out rfl rfl rfl h4 hlt24)
            have HD24 := Lib.hid hlt24
            clear h4 h5 hlt24
            go_enter Tryz.func16, Tryz.ntmps16
            have q0 := HB0.out.1.cell 0
            have q1 := HB0.out.1.cell 1
            have q4 := HB0.out.1.cell 4
            go_wp2_with (first | (go_at_call 39; (with_reducible refine (HNM.out _).mono ?_); rintro e w1 ⟨rfl, rfl⟩) | (go_at_call 40; (with_reducible refine (HO1.out _).mono ?_); rintro e w1 ⟨rfl, b4⟩; have HB1 := Lib.hid (HBB.out _ _ HB0.out b4); clear q0 q1 q4; have q0 := HB1.out.1.cell 0; have q1 := HB1.out.1.cell 1; have q4 := HB1.out.1.cell 4; clear b4) | (go_at_call 40; (with_reducible refine (HO2.out _).mono ?_); rintro e w2 ⟨rfl, b5⟩; have HB2 := Lib.hid (HBB.out _ _ HB1.out b5); clear q0 q1 q4; have q0 := HB2.out.1.cell 0; have q1 := HB2.out.1.cell 1; have q2 := HB2.out.1.cell 2; have q4 := HB2.out.1.cell 4; clear b5))
            clear HNM HO1 HO2 HNO HYES hs4 hd24 hd25 q0 q1 q2 q4
            go_loopw [4, 39] (fun a4 i wr => a4 = .bool false ∧ ∃ k : Nat, k ≤ nA ∧ i = .int .i64 k ∧ Hid (Blk P (.cells #[sV sp, sV nm, .slice aA nA ac, .slice kA nK kc, sV tx] TNo (0, 0)) wr ∧ Below w.heap.size w wr) ∧ Hid ((al.take k).all rightAttrB = true ∧ ((al.take k).map (·.2.1)).Nodup)) (fun _ i _ => nA - (RowKit.intOf i).toNat)
            case atStart => exact ⟨rfl, 0, Nat.zero_le _, rfl, HB2, Lib.hid ⟨rfl, List.nodup_nil⟩⟩
            case round =>
              clear HB0 HB1 HB2
              obtain ⟨rfl, k, hk, rfl, HB, HQ⟩ := hrel
              obtain ⟨W0, hW0⟩ : ∃ W0, W0 = wr := ⟨_, rfl⟩
              subst hW0
              by_cases hlt : k < nA
              · have hkl : k < al.length := by rw [HNA.out]; exact hlt
                obtain ⟨bb, off, hAe, hT, hbl, hcl⟩ := HR.out (by rw [cA_len]; omega)
                obtain ⟨c0, c1, c2⟩ := RC.a3 hcl k hkl
                have HCL := Lib.hid (fun j (hj : j < al.length) => RC.a3 hcl j hj)
                have HNO1 := Lib.hid (fun (h : rightAttrB al[k] = false) => right_attrs_no hkl h)
                have HSN := Lib.hid (fun (h1 : rightAttrB al[k] = true) (h2 : NoName al k al[k].2.1) => And.intro (all_snoc hkl HQ.out.1 h1) (nodup_snoc hkl HQ.out.2 h2))
                have HDU := Lib.hid (fun j (hj : j < k) h => @nodup_no al j k hkl hj h)
                have hwm := wA_mem (List.getElem_mem hkl)
                obtain ⟨a, ha⟩ : ∃ a, al[k] = a := ⟨_, rfl⟩
                rw [ha] at c0 c1 c2 HNO1 HSN HDU hwm
                obtain ⟨⟨asp, anm, avl⟩, rfl⟩ : ∃ x : XA, a = x := ⟨_, rfl⟩
                simp only at c0 c1 c2 hwm
                have hwa := HWA.out
                have HFA : Hid (rightAttrB (asp, anm, avl) = false → o = false) := Lib.hid (fun h => by rw [HO.out, HNO1.out h]; rfl)
                have HDF : Hid (∀ j (hj : j < k), (al[j]'(by omega)).2.1 = anm → o = false) := Lib.hid (fun j hj h => by rw [HO.out, HDU.out j hj h]; rfl)
                have HPA := Lib.hid (attr_parts9 asp anm avl)
                have HN1 := Lib.hid (fun W => rname_any anm W (by omega))
                have HN2 := Lib.hid (fun W => ropen_any anm W (by omega))
                have HN3 := Lib.hid (fun W => ropen_any avl W (by omega))
                unfold BoO at HN2 HN3
                obtain ⟨g1, e1⟩ : ∃ b, isNameL anm = b := ⟨_, rfl⟩
                obtain ⟨g2, e2⟩ : ∃ b, openB anm = b := ⟨_, rfl⟩
                obtain ⟨g3, e3⟩ : ∃ b, openB avl = b := ⟨_, rfl⟩
                rw [e1] at HN1 HPA
                rw [e2] at HN2 HPA
                rw [e3] at HN3 HPA
                have hb := HB.out.2
                have y0 := (hb.cell (p := ⟨bb, off + k * 3, none⟩) hbl).trans c0
                have y1 := (hb.cell (p := ⟨bb, off + k * 3 + 1, none⟩) hbl).trans c1
                have y2 := (hb.cell (p := ⟨bb, off + k * 3 + 2, none⟩) hbl).trans c2
                have hB1 := below_alloc8 W0 (.cells #[sV asp, sV anm, sV avl] TA3 (0, 0))
                have HI7 := Lib.hid (And.intro (Blk.new (.cells #[sV asp, sV anm, sV avl] TA3 (0, 0)) W0) (HBB.out _ _ HB.out hB1))
                have HBB7 : Hid (∀ W W', (Blk W0.heap.size (.cells #[sV asp, sV anm, sV avl] TA3 (0, 0)) W ∧ Blk P (.cells #[sV sp, sV nm, .slice aA nA ac, .slice kA nK kc, sV tx] TNo (0, 0)) W ∧ Below w.heap.size w W) → Below W.heap.size W W' → (Blk W0.heap.size (.cells #[sV asp, sV anm, sV avl] TA3 (0, 0)) W' ∧ Blk P (.cells #[sV sp, sV nm, .slice aA nA ac, .slice kA nK kc, sV tx] TNo (0, 0)) W' ∧ Below w.heap.size w W')) := Lib.hid (fun W W' h b => ⟨(Off.of_below b).blk h.1 (fun h => h), HBB.out _ _ h.2 b⟩)
                have hka : k ≤ ac := by have := HCAP.out; omega
                have hsl : ∀ W, (Instr.slice 24 (.slice (some ⟨bb, off, none⟩) nA ac) none (some (.int .i64 (k : Int))) none).run Tryz.prog W = .ok (.slice (some ⟨bb, off, none⟩) k ac) W := fun W => cut_attrs bb off nA ac k hka W
                have HBL := Lib.hid hbl
                subst hAe
                clear c0 c1 c2 hcl ha hwm hwa e1 e2 e3 hb hB1 hka HDU HNO1 HQ hbl
                by_cases h1 : asp = []
                · have hs1 : (bs asp).toList = [] := by rw [bs_toList]; exact h1
                  cases g1 with
                  | false =>
                    have HF : Hid (o = false) := Lib.hid (HFA.out (by rw [HPA.out]; cases (asp == []) <;> cases (anm == xmlnsW) <;> rfl))
                    clear h1 hsl
                    go_wp2_with (first | (go_at_call 39; (with_reducible refine (HN1.out _).mono ?_); rintro e w3 ⟨rfl, rfl⟩))
                    go_ret
                    exact BoO.of HF.out HI7.out.2.2
                  | true =>
                    cases g2 with
                    | false =>
                      have HF : Hid (o = false) := Lib.hid (HFA.out (by rw [HPA.out]; cases (asp == []) <;> cases (anm == xmlnsW) <;> rfl))
                      clear h1 hsl
                      go_wp2_with (first | (go_at_call 39; (with_reducible refine (HN1.out _).mono ?_); rintro e w3 ⟨rfl, rfl⟩) | (go_at_call 40; (with_reducible refine (HN2.out _).mono ?_); rintro e w8 ⟨rfl, b8⟩; have HI8 := Lib.hid (HBB7.out _ _ HI7.out b8); have q0 := HI8.out.1.cell 0; have q1 := HI8.out.1.cell 1; have q2 := HI8.out.1.cell 2; have p2 := HI8.out.2.1.cell 2; clear b8))
                      go_ret
                      exact BoO.of HF.out HI8.out.2.2
                    | true =>
                      by_cases h2 : anm = xmlnsW
                      · have hr : ((bs anm).toList == [120, 109, 108, 110, 115]) = true := by rw [bs_toList, h2]; rfl
                        have hr2 : (bs anm).toList = [120, 109, 108, 110, 115] := by rw [bs_toList, h2]; rfl
                        have HF : Hid (o = false) := Lib.hid (HFA.out (by rw [HPA.out, h2]; cases (asp == []) <;> rfl))
                        clear h1 h2 hsl
                        go_wp2_with (first | (go_at_call 39; (with_reducible refine (HN1.out _).mono ?_); rintro e w3 ⟨rfl, rfl⟩) | (go_at_call 40; (with_reducible refine (HN2.out _).mono ?_); rintro e w8 ⟨rfl, b8⟩; have HI8 := Lib.hid (HBB7.out _ _ HI7.out b8); have q0 := HI8.out.1.cell 0; have q1 := HI8.out.1.cell 1; have q2 := HI8.out.1.cell 2; have p2 := HI8.out.2.1.cell 2; clear b8))
                        go_ret
                        exact BoO.of HF.out HI8.out.2.2
                      · have hr : ((bs anm).toList == [120, 109, 108, 110, 115]) = false := by rw [bs_toList]; exact beq_eq_false_iff_ne.2 h2
                        have hr2 : ¬ (bs anm).toList = [120, 109, 108, 110, 115] := by rw [bs_toList]; exact h2
                        cases g3 with
                        | false =>
                          have HF : Hid (o = false) := Lib.hid (HFA.out (by rw [HPA.out]; cases (asp == []) <;> cases (anm == xmlnsW) <;> rfl))
                          clear h1 h2 hsl
                          go_wp2_with (first | (go_at_call 39; (with_reducible refine (HN1.out _).mono ?_); rintro e w3 ⟨rfl, rfl⟩) | (go_at_call 40; (with_reducible refine (HN2.out _).mono ?_); rintro e w8 ⟨rfl, b8⟩; have HI8 := Lib.hid (HBB7.out _ _ HI7.out b8); have q0 := HI8.out.1.cell 0; have q1 := HI8.out.1.cell 1; have q2 := HI8.out.1.cell 2; have p2 := HI8.out.2.1.cell 2; clear b8) | (go_at_call 40; (with_reducible refine (HN3.out _).mono ?_); rintro e w9 ⟨rfl, b9⟩; have HI9 := Lib.hid (HBB7.out _ _ HI8.out b9); clear q0 q1 q2 p2; have q0 := HI9.out.1.cell 0; have q1 := HI9.out.1.cell 1; have q2 := HI9.out.1.cell 2; have p2 := HI9.out.2.1.cell 2; clear b9))
                          go_ret
                          exact BoO.of HF.out HI9.out.2.2
                        | true =>
                          have HTR : Hid (rightAttrB (asp, anm, avl) = true) := Lib.hid (by rw [HPA.out, h1, beq_false_of_ne h2]; rfl)
                          clear h1 h2
                          go_wp2_with (first | (go_at_call 39; (with_reducible refine (HN1.out _).mono ?_); rintro e w3 ⟨rfl, rfl⟩) | (go_at_call 40; (with_reducible refine (HN2.out _).mono ?_); rintro e w8 ⟨rfl, b8⟩; have HI8 := Lib.hid (HBB7.out _ _ HI7.out b8); have q0 := HI8.out.1.cell 0; have q1 := HI8.out.1.cell 1; have q2 := HI8.out.1.cell 2; have p2 := HI8.out.2.1.cell 2; clear b8) | (go_at_call 40; (with_reducible refine (HN3.out _).mono ?_); rintro e w9 ⟨rfl, b9⟩; have HI9 := Lib.hid (HBB7.out _ _ HI8.out b9); clear q0 q1 q2 p2; have q0 := HI9.out.1.cell 0; have q1 := HI9.out.1.cell 1; have q2 := HI9.out.1.cell 2; have p2 := HI9.out.2.1.cell 2; clear b9))
                          clear q0 q1 q2 p2 y0 y1 y2 hsl hr hr2 hs1 HN1 HN2 HN3 HFA HPA HI7 HI8
                          go_loopw [4, 75] (fun a4 i wr => a4 = .bool false ∧ ∃ j : Nat, j ≤ k ∧ i = .int .i64 j ∧ Hid (Blk W0.heap.size (.cells #[sV asp, sV anm, sV avl] TA3 (0, 0)) wr ∧ Blk P (.cells #[sV sp, sV nm, .slice (some ⟨bb, off, none⟩) nA ac, .slice kA nK kc, sV tx] TNo (0, 0)) wr ∧ Below w.heap.size w wr) ∧ Hid (NoName al j anm)) (fun _ i _ => k - (RowKit.intOf i).toNat)
                          case atStart => exact ⟨rfl, 0, Nat.zero_le _, rfl, HI9, Lib.hid (fun j _ h => absurd h (Nat.not_lt_zero _))⟩
                          case round =>
                            clear HI9
                            obtain ⟨rfl, j, hj, rfl, HI, HNN⟩ := hrel
                            obtain ⟨V0, hV0⟩ : ∃ V0, V0 = wr := ⟨_, rfl⟩
                            subst hV0
                            by_cases hjt : j < k
                            · have hjl : j < al.length := by omega
                              obtain ⟨c0, c1, c2⟩ := HCL.out j hjl
                              have HD9 := Lib.hid (HDF.out j hjt)
                              have HNS : Hid (al[j].2.1 ≠ anm → NoName al (j + 1) anm) := Lib.hid (fun h i hi hij => by
                                rcases Nat.lt_or_ge i j with h2 | h2
                                · exact HNN.out i hi h2
                                · obtain rfl : i = j := by omega
                                  exact h)
                              obtain ⟨b, hb⟩ : ∃ b, al[j] = b := ⟨_, rfl⟩
                              rw [hb] at c0 c1 c2 HD9 HNS
                              obtain ⟨⟨dsp, dnm, dvl⟩, rfl⟩ : ∃ x : XA, b = x := ⟨_, rfl⟩
                              simp only at c0 c1 c2
                              have hb2 := HI.out.2.2
                              have y0 := (hb2.cell (p := ⟨bb, off + j * 3, none⟩) HBL.out).trans c0
                              have y1 := (hb2.cell (p := ⟨bb, off + j * 3 + 1, none⟩) HBL.out).trans c1
                              have y2 := (hb2.cell (p := ⟨bb, off + j * 3 + 2, none⟩) HBL.out).trans c2
                              have hB2 := below_alloc8 V0 (.cells #[sV dsp, sV dnm, sV dvl] TA3 (0, 0))
                              have HI2 := Lib.hid (HBB7.out _ _ HI.out hB2)
                              have q1 := HI2.out.1.cell 1
                              clear c0 c1 c2 hb hb2 hB2 HNN
                              by_cases he : dnm = anm
                              · have hr : ((bs anm).toList == (bs dnm).toList) = true := by rw [he]; exact beq_self_eq_true _
                                have hr2 : (bs anm).toList = (bs dnm).toList := by rw [he]
                                have HF := Lib.hid (HD9.out he)
                                clear he
                                go_wp2
                                go_ret
                                exact BoO.of HF.out HI2.out.2.2
                              · have hr2 : ¬ (bs anm).toList = (bs dnm).toList := by rw [bs_toList, bs_toList]; exact fun h => he h.symm
                                have hr : ((bs anm).toList == (bs dnm).toList) = false := beq_eq_false_iff_ne.2 hr2
                                have HNN2 := Lib.hid (HNS.out he)
                                clear he
                                go_wp2
                                go_roundw
                                case rel => exact ⟨rfl, j + 1, by omega, by go_num, HI2, HNN2⟩
                                case measure => simp [RowKit.intOf]; omega
                            · obtain rfl : k = j := by omega
                              have HEND := Lib.hid (HSN.out HTR.out HNN.out)
                              have HB3 := Lib.hid HI.out.2
                              clear HNN HI
                              go_wp2
                              go_roundw
                              case rel => exact ⟨rfl, k + 1, by omega, by go_num, HB3, HEND⟩
                              case measure => simp [RowKit.intOf]; omega
                · obtain ⟨hs1, hs2, hs3⟩ := bs_ne h1
                  have HF : Hid (o = false) := Lib.hid (HFA.out (by rw [HPA.out, beq_false_of_ne h1]; rfl))
                  clear h1 hsl
                  go_wp2
                  go_ret
                  exact BoO.of HF.out HI7.out.2.2
              · obtain rfl : nA = k := by omega
                have HRA : Hid (rightAttrsB al = true) := Lib.hid (right_attrs_end (by rw [HNA.out]; exact HQ.out.1) (by rw [HNA.out]; exact HQ.out.2))
                have HO3 : Hid (o = rightKidsB (rightX (24 - (d + 1))) (prevB ks 0) (ks.drop 0)) := Lib.hid (by rw [HO.out, HRA.out]; rfl)
                have q3 := HB.out.1.cell 3
                clear HQ HRA HO
                go_wp2
                clear q3
                go_loopw [4, 89] (fun a4 i wr => a4 = .bool false ∧ ∃ k : Nat, k ≤ nK ∧ i = .int .i64 k ∧ Hid (Blk P (.cells #[sV sp, sV nm, .slice aA nA ac, .slice kA nK kc, sV tx] TNo (0, 0)) wr ∧ Below w.heap.size w wr) ∧ Hid (o = rightKidsB (rightX (24 - (d + 1))) (prevB ks k) (ks.drop k))) (fun _ i _ => nK - (RowKit.intOf i).toNat)
                case atStart => exact ⟨rfl, 0, Nat.zero_le _, rfl, HB, HO3⟩
                case round =>
                  clear HB HO3
                  obtain ⟨rfl, k, hk2, rfl, HB, HQ⟩ := hrel
                  obtain ⟨V0, hV0⟩ : ∃ V0, V0 = wr := ⟨_, rfl⟩
                  subst hV0
                  by_cases hlt2 : k < nK
                  · have hkl : k < ks.length := by rw [HNK.out]; exact hlt2
                    obtain ⟨bb, off, hAe, hT, hbl, hl⟩ := HK.out (by omega)
                    obtain ⟨kaA, kac, kkA, kkc, c0, c1, c2, c3, c4, hxk⟩ := XKl.cells hl k hkl
                    have HST := Lib.hid (rightKids_step (f := rightX (24 - (d + 1))) hkl)
                    have hwm := Nat.le_trans (wXs_mem (List.getElem_mem hkl)) HWK.out
                    have HP : Hid (∀ j, k = j + 1 → ∃ pn : Bt, prevB ks k = (pn == []) ∧ w.cell? ⟨bb, off + j * 5 + 1, none⟩ = some (sV pn)) := Lib.hid (fun j hj => by
                      have hjl : j < ks.length := by omega
                      obtain ⟨pA, pc, qA, qc, d0, d1, _⟩ := XKl.cells hl j hjl
                      refine ⟨ks[j].name, ?_, d1⟩
                      rw [hj]
                      show (match ks[j]? with | some k => k.name == [] | none => false) = _
                      rw [List.getElem?_eq_getElem hjl])
                    obtain ⟨kid, hkd⟩ : ∃ x, ks[k] = x := ⟨_, rfl⟩
                    rw [hkd] at c0 c1 c2 c3 c4 hxk HST hwm
                    have hb := HB.out.2
                    have y0 := (hb.cell (p := ⟨bb, off + k * 5, none⟩) hbl).trans c0
                    have y1 := (hb.cell (p := ⟨bb, off + k * 5 + 1, none⟩) hbl).trans c1
                    have y2 := (hb.cell (p := ⟨bb, off + k * 5 + 2, none⟩) hbl).trans c2
                    have y3 := (hb.cell (p := ⟨bb, off + k * 5 + 3, none⟩) hbl).trans c3
                    have y4 := (hb.cell (p := ⟨bb, off + k * 5 + 4, none⟩) hbl).trans c4
                    have hd9 := HD24.out
                    obtain ⟨mA, hmA⟩ : ∃ n, kid.attrs.length = n := ⟨_, rfl⟩
                    obtain ⟨mK, hmK⟩ : ∃ n, kid.kids.length = n := ⟨_, rfl⟩
                    rw [hmA] at y2 hxk
                    rw [hmK] at y3 hxk
                    have hB1 := below_alloc8 V0 (.cells #[sV kid.space, sV kid.name, .slice kaA mA kac, .slice kkA mK kkc, sV kid.text] TNo (0, 0))
                    have HB2 := Lib.hid (And.intro (Blk.new (.cells #[sV kid.space, sV kid.name, .slice kaA mA kac, .slice kkA mK kkc, sV kid.text] TNo (0, 0)) V0) (HBB.out _ _ HB.out hB1))
                    have HBB7 : Hid (∀ W W', (Blk V0.heap.size (.cells #[sV kid.space, sV kid.name, .slice kaA mA kac, .slice kkA mK kkc, sV kid.text] TNo (0, 0)) W ∧ Blk P (.cells #[sV sp, sV nm, .slice aA nA ac, .slice kA nK kc, sV tx] TNo (0, 0)) W ∧ Below w.heap.size w W) → Below W.heap.size W W' → (Blk V0.heap.size (.cells #[sV kid.space, sV kid.name, .slice kaA mA kac, .slice kkA mK kkc, sV kid.text] TNo (0, 0)) W' ∧ Blk P (.cells #[sV sp, sV nm, .slice aA nA ac, .slice kA nK kc, sV tx] TNo (0, 0)) W' ∧ Below w.heap.size w W')) := Lib.hid (fun W W' h b => ⟨(Off.of_below b).blk h.1 (fun h => h), HBB.out _ _ h.2 b⟩)
                    have HBL := Lib.hid hbl
                    by_cases h0 : kid.name = []
                    · have hs0 : (bs kid.name).toList = [] := by rw [bs_toList]; exact h0
                      have HTT : Hid (o = ((rightTextB kid && !prevB ks k) && rightKidsB (rightX (24 - (d + 1))) (prevB ks (k + 1)) (ks.drop (k + 1)))) := Lib.hid (by rw [HQ.out, HST.out, if_pos h0])
                      have hwt := (wX_text kid).2.2.1
                      have HOT := Lib.hid (fun W => ropen_any kid.text W (by omega))
                      unfold BoO at HOT
                      have HRT : Hid (rightTextB kid = (!(kid.text == []) && openB kid.text && kid.space == [] && kid.attrs.isEmpty && kid.kids.isEmpty)) := Lib.hid rfl
                      obtain ⟨g, hg⟩ : ∃ g, openB kid.text = g := ⟨_, rfl⟩
                      rw [hg] at HOT HRT
                      have HNF : Hid (rightTextB kid = false → o = false) := Lib.hid (fun h => by rw [HTT.out, h]; rfl)
                      have HMA := Lib.hid hmA
                      have HMK := Lib.hid hmK
                      subst hAe
                      clear c0 c1 c2 c3 c4 hb hB1 hkd hxk hl hT hbl h0 hg hmA hmK hwm hwt HST HQ HB hd9
                      by_cases h1 : kid.text = []
                      · have hs1 : (bs kid.text).toList = [] := by rw [bs_toList]; exact h1
                        have HF : Hid (o = false) := Lib.hid (HNF.out (by rw [HRT.out, h1]; rfl))
                        clear h1
                        go_wp2
                        go_ret
                        exact BoO.of HF.out HB2.out.2.2
                      · obtain ⟨hs1, hs2, hs3⟩ := bs_ne h1
                        have HT1 := Lib.hid h1
                        clear h1
                        cases g with
                        | false =>
                          have HF : Hid (o = false) := Lib.hid (HNF.out (by rw [HRT.out]; cases (kid.text == []) <;> rfl))
                          go_wp2_with (first | (go_at_call 40; (with_reducible refine (HOT.out _).mono ?_); rintro e w5 ⟨rfl, b5⟩; have HB5 := Lib.hid (HBB7.out _ _ HB2.out b5); have q0 := HB5.out.1.cell 0; have q1 := HB5.out.1.cell 1; have q2 := HB5.out.1.cell 2; have q3 := HB5.out.1.cell 3; have q4 := HB5.out.1.cell 4; have p3 := HB5.out.2.1.cell 3; clear b5))
                          go_ret
                          exact BoO.of HF.out HB5.out.2.2
                        | true =>
                          by_cases h2 : kid.space = []
                          · have hs4 : (bs kid.space).toList = [] := by rw [bs_toList]; exact h2
                            have HS1 := Lib.hid h2
                            clear h2
                            by_cases h3 : mA = 0
                            · have hm1 : ¬ (0 : Int) < (mA : Int) := by omega
                              have HE1 : Hid (kid.attrs.isEmpty = true) := Lib.hid (List.isEmpty_iff_length_eq_zero.2 (HMA.out.trans h3))
                              clear h3
                              by_cases h4 : mK = 0
                              · have hm2 : ¬ (0 : Int) < (mK : Int) := by omega
                                have HE2 : Hid (kid.kids.isEmpty = true) := Lib.hid (List.isEmpty_iff_length_eq_zero.2 (HMK.out.trans h4))
                                have HT9 : Hid (o = (!prevB ks k && rightKidsB (rightX (24 - (d + 1))) (prevB ks (k + 1)) (ks.drop (k + 1)))) := Lib.hid (by rw [HTT.out, HRT.out, HE1.out, HE2.out, HS1.out, beq_false_of_ne HT1.out]; rfl)
                                clear h4 HTT HRT HE1 HE2 HS1 HT1 HNF
                                cases k with
                                | zero =>
                                  have HF : Hid (o = rightKidsB (rightX (24 - (d + 1))) (prevB ks 1) (ks.drop 1)) := Lib.hid HT9.out
                                  clear HT9 HP
                                  simp only [Nat.zero_mul, Nat.add_zero] at y0 y1 y2 y3 y4
                                  go_wp2_with (first | (go_at_call 40; (with_reducible refine (HOT.out _).mono ?_); rintro e w5 ⟨rfl, b5⟩; have HB5 := Lib.hid (HBB7.out _ _ HB2.out b5); have q0 := HB5.out.1.cell 0; have q1 := HB5.out.1.cell 1; have q2 := HB5.out.1.cell 2; have q3 := HB5.out.1.cell 3; have q4 := HB5.out.1.cell 4; have p3 := HB5.out.2.1.cell 3; clear b5))
                                  have HB6 := Lib.hid HB5.out.2
                                  go_roundw
                                  case rel => exact ⟨rfl, 1, by omega, by go_num, HB6, HF⟩
                                  case measure => simp [RowKit.intOf]; omega
                                | succ j =>
                                  obtain ⟨pn, hpn, d1⟩ := HP.out j rfl
                                  rw [hpn] at HT9
                                  have HD1 := Lib.hid d1
                                  have hj0 : ((j + 1 : Nat) : Int) - 1 = (j : Int) := by omega
                                  have hj1 : (0 : Int) < ((j + 1 : Nat) : Int) := by omega
                                  have hj2 : (j : Int) + 1 - 1 = (j : Int) := by omega
                                  have hj3 : (0 : Int) < (j : Int) + 1 := by omega
                                  have hj4 : (0 : Int) ≤ (j : Int) ∧ (j : Int) < (nK : Int) := by omega
                                  clear HP hpn d1
                                  by_cases h5 : pn = []
                                  · have hs5 : (bs pn).toList = [] := by rw [bs_toList]; exact h5
                                    have HF : Hid (o = false) := Lib.hid (by rw [HT9.out, h5]; rfl)
                                    clear h5 HT9
                                    go_wp2_with (first | (go_at_call 40; (with_reducible refine (HOT.out _).mono ?_); rintro e w5 ⟨rfl, b5⟩; have HB5 := Lib.hid (HBB7.out _ _ HB2.out b5); have q0 := HB5.out.1.cell 0; have q1 := HB5.out.1.cell 1; have q2 := HB5.out.1.cell 2; have q3 := HB5.out.1.cell 3; have q4 := HB5.out.1.cell 4; have p3 := HB5.out.2.1.cell 3; have d1 := (HB5.out.2.2.cell (p := ⟨bb, off + j * 5 + 1, none⟩) HBL.out).trans HD1.out; clear b5))
                                    go_ret
                                    exact BoO.of HF.out HB5.out.2.2
                                  · obtain ⟨hs5, hs6, hs7⟩ := bs_ne h5
                                    have HF : Hid (o = rightKidsB (rightX (24 - (d + 1))) (prevB ks (j + 1 + 1)) (ks.drop (j + 1 + 1))) := Lib.hid (by rw [HT9.out, beq_false_of_ne h5]; rfl)
                                    clear h5 HT9
                                    go_wp2_with (first | (go_at_call 40; (with_reducible refine (HOT.out _).mono ?_); rintro e w5 ⟨rfl, b5⟩; have HB5 := Lib.hid (HBB7.out _ _ HB2.out b5); have q0 := HB5.out.1.cell 0; have q1 := HB5.out.1.cell 1; have q2 := HB5.out.1.cell 2; have q3 := HB5.out.1.cell 3; have q4 := HB5.out.1.cell 4; have p3 := HB5.out.2.1.cell 3; have d1 := (HB5.out.2.2.cell (p := ⟨bb, off + j * 5 + 1, none⟩) HBL.out).trans HD1.out; clear b5))
                                    have HB6 := Lib.hid HB5.out.2
                                    go_roundw
                                    case rel => exact ⟨rfl, j + 1 + 1, by omega, by go_num, HB6, HF⟩
                                    case measure => simp [RowKit.intOf]; omega
                              · have hm2 : (0 : Int) < (mK : Int) := by omega
                                have HE2 : Hid (kid.kids.isEmpty = false) := Lib.hid (by rw [Bool.eq_false_iff]; intro hh; exact h4 (HMK.out.symm.trans (List.isEmpty_iff_length_eq_zero.1 hh)))
                                have HF : Hid (o = false) := Lib.hid (HNF.out (by rw [HRT.out, HE2.out, Bool.and_false]))
                                clear h4
                                go_wp2_with (first | (go_at_call 40; (with_reducible refine (HOT.out _).mono ?_); rintro e w5 ⟨rfl, b5⟩; have HB5 := Lib.hid (HBB7.out _ _ HB2.out b5); have q0 := HB5.out.1.cell 0; have q1 := HB5.out.1.cell 1; have q2 := HB5.out.1.cell 2; have q3 := HB5.out.1.cell 3; have q4 := HB5.out.1.cell 4; have p3 := HB5.out.2.1.cell 3; clear b5))
                                go_ret
                                exact BoO.of HF.out HB5.out.2.2
                            · have hm1 : (0 : Int) < (mA : Int) := by omega
                              have HE2 : Hid (kid.attrs.isEmpty = false) := Lib.hid (by rw [Bool.eq_false_iff]; intro hh; exact h3 (HMA.out.symm.trans (List.isEmpty_iff_length_eq_zero.1 hh)))
                              have HF : Hid (o = false) := Lib.hid (HNF.out (by rw [HRT.out, HE2.out, Bool.and_false]; rfl))
                              clear h3
                              go_wp2_with (first | (go_at_call 40; (with_reducible refine (HOT.out _).mono ?_); rintro e w5 ⟨rfl, b5⟩; have HB5 := Lib.hid (HBB7.out _ _ HB2.out b5); have q0 := HB5.out.1.cell 0; have q1 := HB5.out.1.cell 1; have q2 := HB5.out.1.cell 2; have q3 := HB5.out.1.cell 3; have q4 := HB5.out.1.cell 4; have p3 := HB5.out.2.1.cell 3; clear b5))
                              go_ret
                              exact BoO.of HF.out HB5.out.2.2
                          · obtain ⟨hs4, hs5, hs6⟩ := bs_ne h2
                            have HF : Hid (o = false) := Lib.hid (HNF.out (by rw [HRT.out, beq_false_of_ne h2, Bool.and_false]; rfl))
                            clear h2
                            go_wp2_with (first | (go_at_call 40; (with_reducible refine (HOT.out _).mono ?_); rintro e w5 ⟨rfl, b5⟩; have HB5 := Lib.hid (HBB7.out _ _ HB2.out b5); have q0 := HB5.out.1.cell 0; have q1 := HB5.out.1.cell 1; have q2 := HB5.out.1.cell 2; have q3 := HB5.out.1.cell 3; have q4 := HB5.out.1.cell 4; have p3 := HB5.out.2.1.cell 3; clear b5))
                            go_ret
                            exact BoO.of HF.out HB5.out.2.2
                    · obtain ⟨hs0, hs1, hs2⟩ := bs_ne h0
                      have HTT : Hid (o = (rightX (24 - (d + 1)) kid && rightKidsB (rightX (24 - (d + 1))) (prevB ks (k + 1)) (ks.drop (k + 1)))) := Lib.hid (by rw [HQ.out, HST.out, if_neg h0])
                      have HC0 := HIH.out T kid _ (V0.alloc (.cells #[sV kid.space, sV kid.name, .slice kaA mA kac, .slice kkA mK kkc, sV kid.text] TNo (0, 0))) (d + 1) hwm (by omega) (hxk.below HB2.out.2.2)
                      unfold BoO at HC0
                      obtain ⟨r, hr⟩ : ∃ r, rightX (24 - (d + 1)) kid = r := ⟨_, rfl⟩
                      rw [hr] at HC0 HTT
                      rw [show (((d + 1 : Nat)) : Int) = (d : Int) + 1 from rfl] at HC0
                      have HC := Lib.hid HC0
                      clear HC0 hr
                      subst hAe
                      clear c0 c1 c2 c3 c4 hb hB1 hkd hxk hl hT hbl h0 hmA hmK hwm HST HQ HB HP
                      cases r with
                      | false =>
                        have HF : Hid (o = false) := Lib.hid (by rw [HTT.out]; rfl)
                        go_wp2_with (first | (go_at_call 16; (with_reducible refine HC.out.mono ?_); rintro e w5 ⟨rfl, b5⟩; have HB5 := Lib.hid (HBB7.out _ _ HB2.out b5); clear b5))
                        go_ret
                        exact BoO.of HF.out HB5.out.2.2
                      | true =>
                        have HF : Hid (o = rightKidsB (rightX (24 - (d + 1))) (prevB ks (k + 1)) (ks.drop (k + 1))) := Lib.hid (by rw [HTT.out]; rfl)
                        go_wp2_with (first | (go_at_call 16; (with_reducible refine HC.out.mono ?_); rintro e w5 ⟨rfl, b5⟩; have HB5 := Lib.hid (HBB7.out _ _ HB2.out b5); clear b5))
                        have HB6 := Lib.hid HB5.out.2
                        go_roundw
                        case rel => exact ⟨rfl, k + 1, by omega, by go_num, HB6, HF⟩
                        case measure => simp [RowKit.intOf]; omega
                  · obtain rfl : nK = k := by omega
                    have HF : Hid (o = true) := Lib.hid (by rw [HQ.out, List.drop_of_length_le (by rw [HNK.out]; exact Nat.le_refl _), rightKidsB])
                    go_wp2
                    go_ret
                    exact BoO.of HF.out HB.out.2
        · obtain ⟨hs4, hs5, hs6⟩ := bs_ne h4
          have HF := Lib.hid (HNO.out (.inr (.inr (.inr (.inl h4)))))
          clear h4
          go_enter Tryz.func16, Tryz.ntmps16
          have q0 := HB0.out.1.cell 0
          have q1 := HB0.out.1.cell 1
          have q4 := HB0.out.1.cell 4
          go_wp2_with (first | (go_at_call 39; (with_reducible refine (HNM.out _).mono ?_); rintro e w1 ⟨rfl, rfl⟩) | (go_at_call 40; (with_reducible refine (HO1.out _).mono ?_); rintro e w1 ⟨rfl, b4⟩; have HB1 := Lib.hid (HBB.out _ _ HB0.out b4); clear q0 q1 q4; have q0 := HB1.out.1.cell 0; have q1 := HB1.out.1.cell 1; have q4 := HB1.out.1.cell 4; clear b4) | (go_at_call 40; (with_reducible refine (HO2.out _).mono ?_); rintro e w2 ⟨rfl, b5⟩; have HB2 := Lib.hid (HBB.out _ _ HB1.out b5); clear q0 q1 q4; have q0 := HB2.out.1.cell 0; have q1 := HB2.out.1.cell 1; have q2 := HB2.out.1.cell 2; have q4 := HB2.out.1.cell 4; clear b5))
          go_ret
          exact BoO.of HF.out HB2.out.2
theorem rri_all : ∀ N : Nat, N ≤ 8000 → RRiC N
  | 0, _ => fun T v x w d hN _ _ => by have := wX_eq v; omega
  | N + 1, h => rri_step (by omega) (rri_all N (by omega))
theorem rright_any {T : Nat → Prop} {v : XV} {x : Value} {w : World} (hw : wX v ≤ 8000) (hx : XK w T v x) : Calls Tryz.prog 16 #[x, .int .i64 0] w (BoO (rightX 24 v) w) := rri_all _ hw T v x w 0 (Nat.le_refl _) (by decide) hx
end Go.Proofs.YtklcjimmbkpbdaaGreatDoor
