/-
  The law XmlRemarks: remarks, instructions and blanks around a document change nothing; a second element behind it is wrong. Conditions: the slice's capacity is no less than its length; the library's variable MaxLen holds an int.
-/
import Derived.Test.YtklcjimmbkpbdaaGreatDoorZ40
import Derived.Test.YtklcjimmbkpbdaaGreatDoorZ43
import Derived.Test.YtklcjimmbkpbdaaGreatDoorZ44
import Derived.Lib.ConvBytes
import Derived.Deep.DeepCutAuto
namespace Go.Proofs.YtklcjimmbkpbdaaGreatDoor
open Go.RowKit
open Go.Lib

def cutA (A : Option Addr) (c i : Nat) : Option Addr := if c = i then A else A.map fun a => a.add (i * 1)
theorem size_u8 (w : World) : (Go.sizeOf 5).run Tryz.prog w = .ok 1 w := size_of (by kernel_rfl) w
theorem cut_upto (A : Option Addr) (n c i : Nat) (hi : i ≤ c) (U : World) : (Instr.slice 22 (.slice A n c) none (some (.int .i64 (i : Int))) none).run Tryz.prog U = .ok (.slice (cutA A c 0) i c) U := by
  have he : Tryz.prog.elem 22 = 5 := by kernel_rfl
  rw [run_slice_h U 22 A n c (by rw [he]; exact Tryz.underlying22) .i64 (i : Int) (by omega) (by omega), he, size_u8]
  rfl
theorem RB.cut {w : World} {A : Option Addr} {L : List UInt8} {c : Nat} (h : RB w A L) (k : Nat) (hk : k ≤ L.length) (hc : L.length ≤ c) : RB w (cutA A c 0) (L.take k) := fun hz => by
  rw [List.length_take] at hz
  obtain ⟨b, off, rfl, hbl, hcs⟩ := h (by omega)
  refine ⟨b, off, ?_, hbl, fun j hj => ?_⟩
  · unfold cutA
    rw [if_neg (by omega)]
    simp [Addr.add]
  · rw [List.length_take] at hj
    have := hcs j (by omega)
    rw [this]
    simp [bf, List.getD, show j < k by omega]
theorem add8 (a b : Bt) (h : a.length + b.length ≤ 9223372036854775807) (r : Bt) (hr : a ++ b = r) (W : World) : (Op.stringOp .add (bs a) (bs b)).run Tryz.prog W = .ok (.string (bs r)) W := by
  rw [run_string_add_sum W _ _ (by rw [bs_size, bs_size]; exact h), ← bs_app, hr]
theorem conv_str8 (w : World) (l : Bt) : ∃ C W3, (convert 9 22 (.string (bs l))).run Tryz.prog w = .ok (.slice (some ⟨w.heap.size, 0, none⟩) l.length C) W3 ∧ Below w.heap.size w W3 ∧ RB W3 (some ⟨w.heap.size, 0, none⟩) l := by
  have h := Lib.run_convert_string_bytes (P := Tryz.prog) w 9 22 5 (bs l) Tryz.underlying9 Tryz.underlying22 Tryz.underlying5
  rw [bs_size] at h
  refine ⟨_, _, h, ⟨rfl, rfl, rfl, by rw [bytesWorld_size]; omega, fun k hk => bytesWorld_at_old w _ _ k hk⟩, fun _ => ⟨w.heap.size, 0, rfl, by rw [bytesWorld_size]; omega, fun j hj => ?_⟩⟩
  rw [Nat.zero_add, bytesWorld_cell w _ _ j (by rw [bs_size]; exact hj), bs_list]
  rfl
theorem bom_take (b : Bt) (h : 3 ≤ b.length) : (b.take 3 == bomW) = bomW.isPrefixOf b := by
  rw [pre_take8, decide_eq_true (show bomW.length ≤ b.length from h), Bool.true_and]
  rfl
theorem bom_short (b : Bt) (h : ¬ 3 ≤ b.length) : bomW.isPrefixOf b = false := by
  cases hp : bomW.isPrefixOf b with
  | false => rfl
  | true =>
    have := (List.isPrefixOf_iff_prefix.1 hp).length_le
    exact absurd this h
def aheadB (b : Bt) (m : Nat) : Bt := if bomW.isPrefixOf b = true then [] else aheadR m
theorem remarks_aheadB {b : Bt} {v : XV} (h : parseX b = (v, 0)) (hb : b.length ≤ 3000) (m : Nat) (hm : m ≤ 8) : parseX (aheadB b m ++ b ++ behindR m) = (v, 0) ∧ parseX (b ++ zW) = (zeroX, 70) := parse_remarks h hb m hm
theorem aheadB_len (b : Bt) (m : Nat) : (aheadB b m).length ≤ 10 * m := by
  unfold aheadB
  split
  · exact Nat.zero_le _
  · exact (ahead_skips m).2.2.2.2.1
set_option maxRecDepth 100000 in
set_option maxHeartbeats 16000000 in
theorem law_remarks {A : Option Addr} {n c : Nat} {b : Bt} {nb : Int} {w : World} (hn : b.length = n) (hc : n ≤ c) (hb : RB w A b) (hm : ML w) (h0 : 0 ≤ nb) (h1 : nb ≤ 255) :
    Calls Tryz.prog 7 #[.slice A n c, .int .u8 nb] w (BoO true w) := by
  have HF := Lib.hid (first_any w hm)
  unfold BoO at HF
  have HN := Lib.hid hn
  have HB := Lib.hid hb
  have HM := Lib.hid hm
  clear hn hb hm
  by_cases hbig : 3000 < n
  · have hbi : (3000 : Int) < (n : Int) := by omega
    go_enter Tryz.func7, Tryz.ntmps7
    go_wp2_with fail
    refine HF.out.mono ?_
    rintro e w1 ⟨rfl, b1⟩
    go_wp2
    go_ret
    exact ⟨rfl, b1⟩
  · have hbi : ¬ (3000 : Int) < (n : Int) := by omega
    obtain ⟨m, hm⟩ : ∃ m : Nat, nb % 9 = (m : Int) := ⟨(nb % 9).toNat, by omega⟩
    have hm9 : m ≤ 8 := by omega
    have HMO := Lib.hid hm
    clear hm
    go_enter Tryz.func7, Tryz.ntmps7
    go_wp2_with fail
    refine HF.out.mono ?_
    rintro e w1 ⟨rfl, b1⟩
    have HB1 := Lib.hid b1
    clear HF b1
    go_wp2
    go_loopw [5, 6, 23] (fun s5 s6 i wr => ∃ j : Nat, j ≤ m ∧ i = .int .i64 j ∧ s5 = .string (bs (aheadR j)) ∧ s6 = .string (bs (behindR j)) ∧ Hid (Below w.heap.size w wr)) (fun _ _ i _ => m - (RowKit.intOf i).toNat)
    case atStart => exact ⟨0, Nat.zero_le _, rfl, rfl, rfl, HB1⟩
    case round =>
      clear HB1
      obtain ⟨j, hj, rfl, rfl, rfl, HB2⟩ := hrel
      by_cases hjm : j < m
      · have hlt : (j : Int) < nb % 9 := by have := HMO.out; omega
        have hal := (ahead_skips j).2.2.2.2
        have HAL := Lib.hid hal
        have e1 : aheadR (j + 1) = aheadR j ++ pieceR j := rfl
        have e2 : behindR (j + 1) = pieceR j ++ behindR j := rfl
        have hj9 : j ≤ 8 := by omega
        have HB3 : Hid (Below w.heap.size w (wr.alloc (.cells #[.string ⟨#[32]⟩, .string ⟨#[60, 33, 45, 45, 32, 114, 32, 45, 45, 62]⟩, .string ⟨#[60, 63, 105, 32, 100, 63, 62]⟩, .string ⟨#[10]⟩, .string ⟨#[60, 33, 45, 45, 45, 45, 62]⟩] 9))) := Lib.hid (HB2.out.trans ((below_alloc8 wr (.cells #[.string ⟨#[32]⟩, .string ⟨#[60, 33, 45, 45, 32, 114, 32, 45, 45, 62]⟩, .string ⟨#[60, 63, 105, 32, 100, 63, 62]⟩, .string ⟨#[10]⟩, .string ⟨#[60, 33, 45, 45, 45, 45, 62]⟩] 9 (0, 0))).mono HB2.out.size))
        obtain ⟨x, hx⟩ : ∃ x, pieceR j = x := ⟨_, rfl⟩
        obtain ⟨ah, hah⟩ : ∃ x, aheadR j = x := ⟨_, rfl⟩
        obtain ⟨bh, hbh⟩ : ∃ x, behindR j = x := ⟨_, rfl⟩
        obtain ⟨ah1, hah1⟩ : ∃ x, aheadR (j + 1) = x := ⟨_, rfl⟩
        obtain ⟨bh1, hbh1⟩ : ∃ x, behindR (j + 1) = x := ⟨_, rfl⟩
        rw [hx, hah, hah1] at e1
        rw [hx, hbh, hbh1] at e2
        rw [hah, hbh] at HAL
        rw [hah, hbh]
        have HE := Lib.hid (And.intro hah1 hbh1)
        have hmod : (j % 5 = 0 ∧ x = [32]) ∨ (j % 5 = 1 ∧ x = [60, 33, 45, 45, 32, 114, 32, 45, 45, 62]) ∨ (j % 5 = 2 ∧ x = [60, 63, 105, 32, 100, 63, 62]) ∨ (j % 5 = 3 ∧ x = [10]) ∨ (j % 5 = 4 ∧ x = [60, 33, 45, 45, 45, 45, 62]) := by
          rw [← hx]
          unfold pieceR
          have h5 := Nat.mod_lt j (show 5 > 0 by decide)
          rcases (by omega : j % 5 = 0 ∨ j % 5 = 1 ∨ j % 5 = 2 ∨ j % 5 = 3 ∨ j % 5 = 4) with h | h | h | h | h <;> simp [h]
        clear hal hx hah hbh hah1 hbh1
        rcases hmod with ⟨hr, rfl⟩ | ⟨hr, rfl⟩ | ⟨hr, rfl⟩ | ⟨hr, rfl⟩ | ⟨hr, rfl⟩
        · have hrI : (j : Int) % 5 = 0 := by omega
          have ha1 : ∀ W, (Op.stringOp .add (bs ah) ⟨#[32]⟩).run Tryz.prog W = .ok (.string (bs ah1)) W := fun W => add8 ah [32] (by have := HAL.out; simp only [List.length_cons, List.length_nil]; omega) _ e1.symm W
          have ha2 : ∀ W, (Op.stringOp .add ⟨#[32]⟩ (bs bh)).run Tryz.prog W = .ok (.string (bs bh1)) W := fun W => add8 [32] bh (by have := HAL.out; simp only [List.length_cons, List.length_nil]; omega) _ e2.symm W
          clear hr e1 e2
          go_wp2
          go_roundw
          case rel => exact ⟨j + 1, by omega, by go_num, by rw [HE.out.1], by rw [HE.out.2], HB3⟩
          case measure => simp [RowKit.intOf]; omega
        · have hrI : (j : Int) % 5 = 1 := by omega
          have ha1 : ∀ W, (Op.stringOp .add (bs ah) ⟨#[60, 33, 45, 45, 32, 114, 32, 45, 45, 62]⟩).run Tryz.prog W = .ok (.string (bs ah1)) W := fun W => add8 ah [60, 33, 45, 45, 32, 114, 32, 45, 45, 62] (by have := HAL.out; simp only [List.length_cons, List.length_nil]; omega) _ e1.symm W
          have ha2 : ∀ W, (Op.stringOp .add ⟨#[60, 33, 45, 45, 32, 114, 32, 45, 45, 62]⟩ (bs bh)).run Tryz.prog W = .ok (.string (bs bh1)) W := fun W => add8 [60, 33, 45, 45, 32, 114, 32, 45, 45, 62] bh (by have := HAL.out; simp only [List.length_cons, List.length_nil]; omega) _ e2.symm W
          clear hr e1 e2
          go_wp2
          go_roundw
          case rel => exact ⟨j + 1, by omega, by go_num, by rw [HE.out.1], by rw [HE.out.2], HB3⟩
          case measure => simp [RowKit.intOf]; omega
        · have hrI : (j : Int) % 5 = 2 := by omega
          have ha1 : ∀ W, (Op.stringOp .add (bs ah) ⟨#[60, 63, 105, 32, 100, 63, 62]⟩).run Tryz.prog W = .ok (.string (bs ah1)) W := fun W => add8 ah [60, 63, 105, 32, 100, 63, 62] (by have := HAL.out; simp only [List.length_cons, List.length_nil]; omega) _ e1.symm W
          have ha2 : ∀ W, (Op.stringOp .add ⟨#[60, 63, 105, 32, 100, 63, 62]⟩ (bs bh)).run Tryz.prog W = .ok (.string (bs bh1)) W := fun W => add8 [60, 63, 105, 32, 100, 63, 62] bh (by have := HAL.out; simp only [List.length_cons, List.length_nil]; omega) _ e2.symm W
          clear hr e1 e2
          go_wp2
          go_roundw
          case rel => exact ⟨j + 1, by omega, by go_num, by rw [HE.out.1], by rw [HE.out.2], HB3⟩
          case measure => simp [RowKit.intOf]; omega
        · have hrI : (j : Int) % 5 = 3 := by omega
          have ha1 : ∀ W, (Op.stringOp .add (bs ah) ⟨#[10]⟩).run Tryz.prog W = .ok (.string (bs ah1)) W := fun W => add8 ah [10] (by have := HAL.out; simp only [List.length_cons, List.length_nil]; omega) _ e1.symm W
          have ha2 : ∀ W, (Op.stringOp .add ⟨#[10]⟩ (bs bh)).run Tryz.prog W = .ok (.string (bs bh1)) W := fun W => add8 [10] bh (by have := HAL.out; simp only [List.length_cons, List.length_nil]; omega) _ e2.symm W
          clear hr e1 e2
          go_wp2
          go_roundw
          case rel => exact ⟨j + 1, by omega, by go_num, by rw [HE.out.1], by rw [HE.out.2], HB3⟩
          case measure => simp [RowKit.intOf]; omega
        · have hrI : (j : Int) % 5 = 4 := by omega
          have ha1 : ∀ W, (Op.stringOp .add (bs ah) ⟨#[60, 33, 45, 45, 45, 45, 62]⟩).run Tryz.prog W = .ok (.string (bs ah1)) W := fun W => add8 ah [60, 33, 45, 45, 45, 45, 62] (by have := HAL.out; simp only [List.length_cons, List.length_nil]; omega) _ e1.symm W
          have ha2 : ∀ W, (Op.stringOp .add ⟨#[60, 33, 45, 45, 45, 45, 62]⟩ (bs bh)).run Tryz.prog W = .ok (.string (bs bh1)) W := fun W => add8 [60, 33, 45, 45, 45, 45, 62] bh (by have := HAL.out; simp only [List.length_cons, List.length_nil]; omega) _ e2.symm W
          clear hr e1 e2
          go_wp2
          go_roundw
          case rel => exact ⟨j + 1, by omega, by go_num, by rw [HE.out.1], by rw [HE.out.2], HB3⟩
          case measure => simp [RowKit.intOf]; omega
      · obtain rfl : m = j := by omega
        have hge : ¬ (m : Int) < nb % 9 := by have := HMO.out; omega
        obtain ⟨V0, hV0⟩ : ∃ V, V = wr := ⟨_, rfl⟩
        subst hV0
        have HLN := Lib.hid (And.intro (aheadB_len b m) (ahead_skips m).2.2.2.2.2)
        obtain ⟨q, hq⟩ : ∃ q, bomW.isPrefixOf b = q := ⟨_, rfl⟩
        have HQ := Lib.hid hq
        go_upto_region 12 with fail
        go_cut [46] (fun s46 wx => s46 = .bool q ∧ Hid (Below w.heap.size w wx))
        case first =>
          by_cases h3 : 3 ≤ n
          · have h3i : (3 : Int) ≤ (n : Int) := by omega
            have hs : ∀ U, (Instr.slice 22 (.slice A n c) none (some (.int .i64 3)) none).run Tryz.prog U = .ok (.slice (cutA A c 0) 3 c) U := fun U => cut_upto A n c 3 (by omega) U
            have hcv : ∀ W, Below w.heap.size w W → (convert 22 9 (.slice (cutA A c 0) 3 c)).run Tryz.prog W = .ok (.string (bs (b.take 3))) W := fun W hW => conv_slice8 (l := b.take 3) c (by rw [List.length_take, HN.out]; omega) ((HB.out.below hW).cut 3 (by rw [HN.out]; exact h3) (by rw [HN.out]; exact hc))
            have hcv0 := hcv _ HB2.out
            have hbe : ((bs (b.take 3)).toList == [239, 187, 191]) = q := by rw [bs_toList, ← hq]; exact bom_take b (by rw [HN.out]; exact h3)
            clear hcv
            go_wp2
            go_meet
            exact ⟨rfl, HB2⟩
          · have h3i : ¬ (3 : Int) ≤ (n : Int) := by omega
            have hqf : q = false := by rw [← hq]; exact bom_short b (by rw [HN.out]; exact h3)
            subst hqf
            go_wp2
            go_meet
            exact ⟨rfl, HB2⟩
        case rest =>
          clear HB2 hq
          obtain ⟨rfl, HB2⟩ := hcut
          go_upto_if 46 with fail
          go_cut [5] (fun s5 wx => s5 = .string (bs (aheadB b m)) ∧ Hid (Below w.heap.size w wx))
          case first =>
            cases q with
            | true =>
              go_wp2
              go_meet
              exact ⟨by unfold aheadB; rw [if_pos HQ.out]; rfl, HB2⟩
            | false =>
              go_wp2
              go_meet
              exact ⟨by unfold aheadB; rw [if_neg (by rw [HQ.out]; decide)], HB2⟩
          case rest =>
            clear HB2
            obtain ⟨rfl, HB2⟩ := hcut
            obtain ⟨V0, hV0⟩ : ∃ V, V = wc := ⟨_, rfl⟩
            subst hV0
            have HP1 := Lib.hid (parse_any8 (c := c) HN.out (HB.out.below HB2.out) (HM.out.below HB2.out))
            unfold PaO at HP1
            obtain ⟨p, hp⟩ : ∃ p, parseX b = p := ⟨_, rfl⟩
            have HPE := Lib.hid hp
            have HCX : Hid (cX p.1 ≤ 70000) := Lib.hid (by rw [← hp]; exact parse_cX b)
            rw [hp] at HP1
            clear hp
            obtain ⟨v, z⟩ := p
            simp only at HP1 HCX
            go_wp2_with fail
            refine HP1.out.mono ?_
            clear HP1
            rintro e w2 ⟨b2, x, rfl, hx⟩
            have HX0 := Lib.hid hx
            obtain ⟨aA, ac, kA, kc, rfl⟩ := xr_one hx
            obtain ⟨X0, hX0⟩ : ∃ s, v.space = s := ⟨_, rfl⟩
            obtain ⟨X1, hX1⟩ : ∃ s, v.name = s := ⟨_, rfl⟩
            obtain ⟨X4, hX4⟩ : ∃ s, v.text = s := ⟨_, rfl⟩
            obtain ⟨nA, hnA⟩ : ∃ s, v.attrs.length = s := ⟨_, rfl⟩
            obtain ⟨nK, hnK⟩ : ∃ s, v.kids.length = s := ⟨_, rfl⟩
            rw [hX0, hX1, hX4, hnA, hnK] at HX0
            rw [hX0, hX1, hX4, hnA, hnK]
            have b23 := HB2.out.trans (b2.mono HB2.out.size)
            have b3 := below_alloc8 w2 (.cells #[sV X0, sV X1, .slice aA nA ac, .slice kA nK kc, sV X4] TNo (0, 0))
            have HVB := Lib.hid (Blk.new (.cells #[sV X0, sV X1, .slice aA nA ac, .slice kA nK kc, sV X4] TNo (0, 0)) w2)
            have HX3 := Lib.hid (HX0.out.below b3)
            have HB3 := Lib.hid (b23.trans (b3.mono b23.size))
            clear hx b2 b3 b23 HX0 HB2 hX0 hX1 hX4 hnA hnK
            by_cases hz0 : z = 0
            · subst hz0
              have HRM := Lib.hid (remarks_aheadB HPE.out (by have := HN.out; omega) m hm9)
              obtain ⟨M1, hM1⟩ : ∃ M, w2.heap.size = M := ⟨_, rfl⟩
              rw [hM1] at HVB
              go_upto_region 17 with fail
              obtain ⟨w3, hw3⟩ : ∃ W, w2.alloc (.cells #[sV X0, sV X1, .slice aA nA ac, .slice kA nK kc, sV X4] TNo) = W := ⟨_, rfl⟩
              try rw [hM1]
              rw [hw3] at HVB HX3 HB3 ⊢
              clear hw3 hM1
              have hcb := conv_slice8 c HN.out (HB.out.below HB3.out)
              have hl1 : (aheadB b m).length + b.length + (behindR m).length ≤ 4000 := by have h1 := HLN.out; have h2 := HN.out; omega
              have HL1 := Lib.hid hl1
              have ha1 := add8 (aheadB b m) b (by omega) _ rfl
              have ha2 := add8 (aheadB b m ++ b) (behindR m) (by rw [List.length_append]; omega) _ rfl
              obtain ⟨C4, w4, hcv, b4, hr4⟩ := conv_str8 w3 (aheadB b m ++ b ++ behindR m)
              have P2 := parse_any8 (c := C4) (n := (aheadB b m ++ b ++ behindR m).length) rfl hr4 (HM.out.below (HB3.out.trans (b4.mono HB3.out.size)))
              rw [HRM.out.1] at P2
              unfold PaO at P2
              have HP2 := Lib.hid P2
              have HV4 := Lib.hid ((Off.of_below b4).blk HVB.out (fun h => h))
              have HX4 := Lib.hid (HX3.out.below b4)
              have HB4 := Lib.hid (HB3.out.trans (b4.mono HB3.out.size))
              obtain ⟨r3, hr3⟩ : ∃ x, aheadB b m ++ b ++ behindR m = x := ⟨_, rfl⟩
              obtain ⟨r2, hr2⟩ : ∃ x, aheadB b m ++ b = x := ⟨_, rfl⟩
              obtain ⟨n3, hn3⟩ : ∃ x, r3.length = x := ⟨_, rfl⟩
              rw [hr3] at hcv HP2 ha2
              rw [hr2] at ha1 ha2
              rw [hn3] at hcv HP2
              clear P2 b4 hr4 HVB HX3 HB3 hr3 hr2 hn3 hl1
              go_wp2_with fail
              refine HP2.out.mono ?_
              clear HP2 hcv ha1 ha2 hcb
              rintro e w5 ⟨b5, y, rfl, hy⟩
              try simp only at hy
              have HY0 := Lib.hid hy
              obtain ⟨yA, yc, ykA, ykc, rfl⟩ := xr_one hy
              obtain ⟨Y0, hY0⟩ : ∃ s, v.space = s := ⟨_, rfl⟩
              obtain ⟨Y1, hY1⟩ : ∃ s, v.name = s := ⟨_, rfl⟩
              obtain ⟨Y4, hY4⟩ : ∃ s, v.text = s := ⟨_, rfl⟩
              obtain ⟨mA, hmA⟩ : ∃ s, v.attrs.length = s := ⟨_, rfl⟩
              obtain ⟨mK, hmK⟩ : ∃ s, v.kids.length = s := ⟨_, rfl⟩
              rw [hY0, hY1, hY4, hmA, hmK] at HY0
              rw [hY0, hY1, hY4, hmA, hmK]
              have b6 := below_alloc8 w5 (.cells #[sV Y0, sV Y1, .slice yA mA yc, .slice ykA mK ykc, sV Y4] TNo (0, 0))
              have b56 := b5.trans (b6.mono b5.size)
              have HW6 := Lib.hid (Blk.new (.cells #[sV Y0, sV Y1, .slice yA mA yc, .slice ykA mK ykc, sV Y4] TNo (0, 0)) w5)
              have HY6 := Lib.hid (HY0.out.below b6)
              have HV6 := Lib.hid ((Off.of_below b56).blk HV4.out (fun h => h))
              have HX6 := Lib.hid (HX4.out.below b56)
              have HB6 := Lib.hid (HB4.out.trans (b56.mono HB4.out.size))
              obtain ⟨M2, hM2⟩ : ∃ M, w5.heap.size = M := ⟨_, rfl⟩
              rw [hM2] at HW6
              clear hy b5 b6 b56 HY0 HV4 HX4 HB4 hY0 hY1 hY4 hmA hmK
              go_upto_region 18 with fail
              obtain ⟨w6, hw6⟩ : ∃ W, w5.alloc (.cells #[sV Y0, sV Y1, .slice yA mA yc, .slice ykA mK ykc, sV Y4] TNo) = W := ⟨_, rfl⟩
              try rw [hM2]
              rw [hw6] at HW6 HY6 HV6 HX6 HB6 ⊢
              clear hw6 hM2
              have hcb := conv_slice8 c HN.out (HB.out.below HB6.out)
              have ha3 : ∀ W, (Op.stringOp .add (bs b) ⟨#[60, 122, 47, 62]⟩).run Tryz.prog W = .ok (.string (bs (b ++ zW))) W := add8 b zW (by have := HN.out; simp only [zW, List.length_cons, List.length_nil]; omega) _ rfl
              obtain ⟨C7, w7, hcv, b7, hr7⟩ := conv_str8 w6 (b ++ zW)
              have P3 := parse_any8 (c := C7) (n := (b ++ zW).length) rfl hr7 (HM.out.below (HB6.out.trans (b7.mono HB6.out.size)))
              rw [HRM.out.2] at P3
              unfold PaO at P3
              have HP3 := Lib.hid P3
              have HV7 := Lib.hid ((Off.of_below b7).blk HV6.out (fun h => h))
              have HW7 := Lib.hid ((Off.of_below b7).blk HW6.out (fun h => h))
              have HX7 := Lib.hid (HX6.out.below b7)
              have HY7 := Lib.hid (HY6.out.below b7)
              have HB7 := Lib.hid (HB6.out.trans (b7.mono HB6.out.size))
              obtain ⟨r4, hr4⟩ : ∃ x, b ++ zW = x := ⟨_, rfl⟩
              obtain ⟨n4, hn4⟩ : ∃ x, r4.length = x := ⟨_, rfl⟩
              rw [hr4] at hcv HP3 ha3
              rw [hn4] at hcv HP3
              clear P3 b7 hr7 HV6 HW6 HX6 HY6 HB6 hr4 hn4
              go_wp2_with fail
              refine HP3.out.mono ?_
              clear HP3 hcv ha3 hcb
              rintro e w8 ⟨b8, u, rfl, hu⟩
              try simp only at hu
              obtain ⟨uA, uc, ukA, ukc, rfl⟩ := xr_one hu
              obtain ⟨U0, hU0⟩ : ∃ s, zeroX.space = s := ⟨_, rfl⟩
              obtain ⟨U1, hU1⟩ : ∃ s, zeroX.name = s := ⟨_, rfl⟩
              obtain ⟨U4, hU4⟩ : ∃ s, zeroX.text = s := ⟨_, rfl⟩
              obtain ⟨oA, hoA⟩ : ∃ s, zeroX.attrs.length = s := ⟨_, rfl⟩
              obtain ⟨oK, hoK⟩ : ∃ s, zeroX.kids.length = s := ⟨_, rfl⟩
              rw [hU0, hU1, hU4, hoA, hoK]
              have b9 := below_alloc8 w8 (.cells #[sV U0, sV U1, .slice uA oA uc, .slice ukA oK ukc, sV U4] TNo (0, 0))
              have b89 := b8.trans (b9.mono b8.size)
              have v9 := (Off.of_below b89).blk HV7.out (fun h => h)
              have w9 := (Off.of_below b89).blk HW7.out (fun h => h)
              have i0 := v9.cell 0
              have i1 := v9.cell 1
              have i2 := v9.cell 2
              have i3 := v9.cell 3
              have i4 := v9.cell 4
              have j0 := w9.cell 0
              have j1 := w9.cell 1
              have j2 := w9.cell 2
              have j3 := w9.cell 3
              have j4 := w9.cell 4
              have HSM := Lib.hid (same_any (Nat.le_trans HCX.out (by decide)) (HX7.out.below b89) (HY7.out.below b89))
              unfold BoO at HSM
              have HB9 := Lib.hid (HB7.out.trans (b89.mono HB7.out.size))
              clear hu hU0 hU1 hU4 hoA hoK b8 b9 b89 v9 w9 HV7 HW7 HX7 HY7 HB7
              go_wp2_with fail
              refine HSM.out.mono ?_
              rintro e w10 ⟨rfl, b10⟩
              have HBE := Lib.hid (HB9.out.trans (b10.mono HB9.out.size))
              clear b10
              go_wp2
              go_ret
              exact BoO.of rfl HBE.out
            · have hz1 : (z == 0) = false := by rw [beq_eq_false_iff_ne]; exact hz0
              have hz2 : (z != 0) = true := by rw [bne, hz1]; rfl
              go_wp2
              go_ret
              exact BoO.of rfl HB3.out
      end Go.Proofs.YtklcjimmbkpbdaaGreatDoor
