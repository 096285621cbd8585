/-
  The walk of the program's Hex. Conditions: as it says.
-/
import Derived.Test.YtkgmkblcofedbaaDoorSS
import Derived.Lib.ConvBytes
namespace Go.Proofs.YtkgmkblcofedbaaDoor
open Go.RowKit
open Go.Lib

theorem dgt_lit : ∀ d : Fin 16, (⟨#[48, 49, 50, 51, 52, 53, 54, 55, 56, 57, 97, 98, 99, 100, 101, 102]⟩ : ByteArray).data.toList.getD d.val 0 = dgt d.val := by decide
theorem dig_run (W : World) (x : Int) (d : Nat) (hx : x = (d : Int)) (hd : d < 16) : (Instr.index 9 (.string ⟨#[48, 49, 50, 51, 52, 53, 54, 55, 56, 57, 97, 98, 99, 100, 101, 102]⟩) (.int .u8 x)).run Tryd.prog W = .ok (.int .u8 ((dgt d).toNat : Int)) W := by
  subst hx
  have h := run_index_string (P := Tryd.prog) W 9 ⟨#[48, 49, 50, 51, 52, 53, 54, 55, 56, 57, 97, 98, 99, 100, 101, 102]⟩ .u8 (d : Int) Tryd.underlying9
  rw [dif_pos ⟨by omega, by show (d : Int) < 16; omega⟩] at h
  rw [h]
  have e := dgt_lit ⟨d, hd⟩
  simp only [List.getD] at e
  rw [List.getElem?_eq_getElem (by show d < 16; exact hd)] at e
  rw [← e]
  rfl
theorem hexP_len (l : List UInt8) : (hexP l).length = 2 * l.length := by
  induction l with
  | nil => rfl
  | cons b l ih => simp [hexP] at ih ⊢; omega
theorem hexP_cons (b : UInt8) (l : List UInt8) : hexP (b :: l) = dgt (b.toNat / 16) :: dgt (b.toNat % 16) :: hexP l := by simp [hexP]
theorem hexP_at : ∀ (l : List UInt8) (i : Nat), i < l.length → (hexP l).getD (2 * i) 0 = dgt ((l.getD i 0).toNat / 16) ∧ (hexP l).getD (2 * i + 1) 0 = dgt ((l.getD i 0).toNat % 16)
  | [], i, h => absurd h (by simp)
  | b :: l, 0, _ => by rw [hexP_cons]; exact ⟨rfl, rfl⟩
  | b :: l, i + 1, h => by
    have ih := hexP_at l i (by simpa using h)
    rw [hexP_cons, show 2 * (i + 1) = (2 * i + 1) + 1 by omega]
    simp only [List.getD, List.getElem?_cons_succ] at ih ⊢
    exact ih
theorem slice_all64 (w : World) (B : Nat) : (Instr.sliceAt 45 (.pointer (some ⟨B, 0, none⟩)) none none none).run Tryd.prog w = .ok (.slice (some ⟨B, 0, none⟩) 64 64) w := by
  have hl : Tryd.prog.arrayLen 45 = 64 := by kernel_rfl
  have he : Tryd.prog.elem 45 = 5 := by kernel_rfl
  rw [run_sliceAt_array_all w 45 ⟨B, 0, none⟩ (by rw [hl, he]; exact Tryd.underlying45), he, hl, size_u8]
  simp only [Result.andThen, slicedAt, Nat.mul_one, Addr.add_mid, Nat.zero_add]
  rw [if_neg (by omega)]
theorem conv_row (w : World) (B t : Nat) (l : List UInt8) (n c : Nat) (hn : l.length = n) (h : w.rowIs B t n (bf l)) : (convert 22 9 (.slice (some ⟨B, 0, none⟩) n c)).run Tryd.prog w = .ok (.string ⟨l.toArray⟩) w := by
  subst hn
  refine run_convert_bytes_back w 22 9 5 ⟨B, 0, none⟩ c l Tryd.underlying22 Tryd.underlying5 Tryd.underlying9 fun j hj => ?_
  rw [Addr.add_mid, Nat.zero_add, h.cell hj]
  simp [bf, List.getD, hj]
set_option maxRecDepth 100000 in
set_option maxHeartbeats 4000000 in
theorem hex_any (A : Option Addr) (c : Nat) (ps : List (List UInt8)) (htot : ps.flatten.length < 2 ^ 60) (hps : ps.length ≤ 2 ^ 47) (n : Nat) (hn : ps.length = n) (w : World) (hE : Env w) (hPS : PS (fun _ => False) w A ps) :
    Calls Tryd.prog 10 #[.slice A n c] w fun e w' => e = .returned (.string ⟨(hexP (sumP ps.flatten)).toArray⟩) ∧ Below w.heap.size w w' := by
  obtain ⟨w1, hw1⟩ : ∃ w1, w.alloc (.cells #[.int .u8 0, .int .u8 0, .int .u8 0, .int .u8 0, .int .u8 0, .int .u8 0, .int .u8 0, .int .u8 0, .int .u8 0, .int .u8 0, .int .u8 0, .int .u8 0, .int .u8 0, .int .u8 0, .int .u8 0, .int .u8 0, .int .u8 0, .int .u8 0, .int .u8 0, .int .u8 0, .int .u8 0, .int .u8 0, .int .u8 0, .int .u8 0, .int .u8 0, .int .u8 0, .int .u8 0, .int .u8 0, .int .u8 0, .int .u8 0, .int .u8 0, .int .u8 0, .int .u8 0, .int .u8 0, .int .u8 0, .int .u8 0, .int .u8 0, .int .u8 0, .int .u8 0, .int .u8 0, .int .u8 0, .int .u8 0, .int .u8 0, .int .u8 0, .int .u8 0, .int .u8 0, .int .u8 0, .int .u8 0, .int .u8 0, .int .u8 0, .int .u8 0, .int .u8 0, .int .u8 0, .int .u8 0, .int .u8 0, .int .u8 0, .int .u8 0, .int .u8 0, .int .u8 0, .int .u8 0, .int .u8 0, .int .u8 0, .int .u8 0, .int .u8 0] 45) = w1 := ⟨_, rfl⟩
  have r1 := World.rowIs_alloc w #[.int .u8 0, .int .u8 0, .int .u8 0, .int .u8 0, .int .u8 0, .int .u8 0, .int .u8 0, .int .u8 0, .int .u8 0, .int .u8 0, .int .u8 0, .int .u8 0, .int .u8 0, .int .u8 0, .int .u8 0, .int .u8 0, .int .u8 0, .int .u8 0, .int .u8 0, .int .u8 0, .int .u8 0, .int .u8 0, .int .u8 0, .int .u8 0, .int .u8 0, .int .u8 0, .int .u8 0, .int .u8 0, .int .u8 0, .int .u8 0, .int .u8 0, .int .u8 0, .int .u8 0, .int .u8 0, .int .u8 0, .int .u8 0, .int .u8 0, .int .u8 0, .int .u8 0, .int .u8 0, .int .u8 0, .int .u8 0, .int .u8 0, .int .u8 0, .int .u8 0, .int .u8 0, .int .u8 0, .int .u8 0, .int .u8 0, .int .u8 0, .int .u8 0, .int .u8 0, .int .u8 0, .int .u8 0, .int .u8 0, .int .u8 0, .int .u8 0, .int .u8 0, .int .u8 0, .int .u8 0, .int .u8 0, .int .u8 0, .int .u8 0, .int .u8 0] 45 (bf []) (fun i hi => zb64_at i hi)
  have hb1 : Below w.heap.size w w1 := by rw [← hw1]; exact (Below.refl _ _).alloc (Nat.le_refl _) _
  rw [hw1] at r1
  have hs := sum_any A c ps htot hps n hn w1 (hE.after hb1) (hPS.kx (KX.below _ hb1))
  obtain ⟨s, hsv⟩ : ∃ q, sumP ps.flatten = q := ⟨_, rfl⟩
  have hsl : s.length = 32 := by rw [← hsv]; exact sumP_len _
  rw [hsv] at hs ⊢
  obtain ⟨sc, hsc⟩ : ∃ q, (cellsB s).toArray = q := ⟨_, rfl⟩
  rw [hsc] at hs
  obtain ⟨T, hT⟩ : ∃ q, hexP s = q := ⟨_, rfl⟩
  have hTl : T.length = 64 := by rw [← hT, hexP_len, hsl]
  have hTa : ∀ i b, i < 32 → s.getD i 0 = b → T.getD (2 * i) 0 = dgt (b.toNat / 16) ∧ T.getD (2 * i + 1) 0 = dgt (b.toNat % 16) := fun i b hi hb => by rw [← hT, ← hb]; exact hexP_at s i (by omega)
  rw [hT]
  have HSC := Lib.hid hsc
  have HSL := Lib.hid hsl
  have HTL := Lib.hid hTl
  have HTA := Lib.hid hTa
  have R1 := Lib.hid r1
  clear hsv hsl hsc hT hTl hTa r1 hn
  go_enter Tryd.func10, Tryd.ntmps10
  go_wp2_with (go_at_call 8; (with_reducible refine hs.mono ?_); rintro e w2 ⟨rfl, hb2⟩)
  have r2 := R1.out.of_block (hb2.block _ R1.out.lt)
  have hbw2 : Below w.heap.size w w2 := hb1.trans (hb2.mono hb1.size)
  clear hb2 hb1 R1 hw1 hs
  go_loopw [8] (fun ti wr => ∃ i : Nat, i ≤ 32 ∧ ti = .int .i64 i ∧ wr.rowIs w.heap.size 45 64 (fun n => if n < 2 * i then bf T n else bf [] n) ∧ Below w.heap.size w wr) (fun ti _ => 32 - (RowKit.intOf ti).toNat)
  case atStart => exact ⟨0, by omega, rfl, r2.congr (fun i _ => by simp), hbw2⟩
  case round =>
    clear r2 hbw2
    obtain ⟨i, hi, rfl, p1, hbr⟩ := hrel
    by_cases hil : i < 32
    · obtain ⟨b, hb⟩ : ∃ b, s.getD i 0 = b := ⟨_, rfl⟩
      have xv : ∀ U, (Instr.index 26 (.agg sc) (.int .i64 (i : Int))).run Tryd.prog U = .ok (.int .u8 (b.toNat : Int)) U := fun U => by
        rw [← HSC.out]
        have hv : (cellsB s)[i]? = some (.int .u8 (b.toNat : Int)) := by rw [cellsB_at s i (by rw [HSL.out]; exact hil)]; unfold bf; rw [hb]
        exact ix_val U _ _ 32 _ _ i _ Tryd.underlying26 (size_u8 U) rfl hil (part_u8 U _ i _ hv)
      have hbl := b.toNat_lt
      have ht := HTA.out i b hil hb
      obtain ⟨q, hq⟩ : ∃ q, b.toNat / 16 = q := ⟨_, rfl⟩
      obtain ⟨r, hr⟩ : ∃ r, b.toNat % 16 = r := ⟨_, rfl⟩
      rw [hq, hr] at ht
      have hqi : (b.toNat : Int) / 16 = (q : Int) := by omega
      have hri : (b.toNat : Int) % 16 = (r : Int) := by omega
      have dq : ∀ U, (Instr.index 9 (.string ⟨#[48, 49, 50, 51, 52, 53, 54, 55, 56, 57, 97, 98, 99, 100, 101, 102]⟩) (.int .u8 (q : Int))).run Tryd.prog U = .ok (.int .u8 ((dgt q).toNat : Int)) U := fun U => dig_run U _ q rfl (by omega)
      have dr : ∀ U, (Instr.index 9 (.string ⟨#[48, 49, 50, 51, 52, 53, 54, 55, 56, 57, 97, 98, 99, 100, 101, 102]⟩) (.int .u8 (r : Int))).run Tryd.prog U = .ok (.int .u8 ((dgt r).toNat : Int)) U := fun U => dig_run U _ r rfl (by omega)
      obtain ⟨dQ, hdQ⟩ : ∃ x, dgt q = x := ⟨_, rfl⟩
      obtain ⟨dR, hdR⟩ : ∃ x, dgt r = x := ⟨_, rfl⟩
      rw [hdQ] at dq
      rw [hdR] at dr
      rw [hdQ, hdR] at ht
      have x0 : ∀ U, (Instr.indexAt 45 (.pointer (some ⟨w.heap.size, 0, none⟩)) (.int .i64 (2 * (i : Int)))).run Tryd.prog U = .ok (.pointer (some ⟨w.heap.size, 2 * i, none⟩)) U := fun U => ix_at U _ _ 64 _ _ (2 * i) Tryd.underlying45 (size_u8 U) (by omega) (by omega)
      have x1 : ∀ U, (Instr.indexAt 45 (.pointer (some ⟨w.heap.size, 0, none⟩)) (.int .i64 (2 * (i : Int) + 1))).run Tryd.prog U = .ok (.pointer (some ⟨w.heap.size, 2 * i + 1, none⟩)) U := fun U => ix_at U _ _ 64 _ _ (2 * i + 1) Tryd.underlying45 (size_u8 U) (by omega) (by omega)
      have c0 := p1.cell (i := 2 * i) (by omega)
      have f0 := p1.frozen (2 * i)
      rw [if_neg (Nat.lt_irrefl _)] at c0
      have hv0 : Value.int .u8 (dQ.toNat : Int) = bf T (2 * i) := by unfold bf; rw [ht.1]
      have hv1 : Value.int .u8 (dR.toNat : Int) = bf T (2 * i + 1) := by unfold bf; rw [ht.2]
      have p2 := row_step2 (f := bf T) (g := bf []) p1 hv0
      obtain ⟨V1, hV1⟩ : ∃ V1, wr.setCell ⟨w.heap.size, 2 * i, none⟩ (.int .u8 (dQ.toNat : Int)) = V1 := ⟨_, rfl⟩
      rw [hV1] at p2
      have hbV : Below w.heap.size w V1 := by rw [← hV1]; exact hbr.setCell (p := ⟨w.heap.size, 2 * i, none⟩) (Nat.le_refl _) _
      have c1 := p2.cell (i := 2 * i + 1) (by omega)
      have f1 := p2.frozen (2 * i + 1)
      rw [if_neg (Nat.lt_irrefl _)] at c1
      have HV1 := Lib.hid hv1
      unfold bf at c0 c1
      clear ht hq hr hdQ hdR hb hv0 hv1 p1 hbr
      go_wp2
      go_roundw
      case rel => exact ⟨i + 1, by omega, by go_num, row_step2 (f := bf T) (g := bf []) p2 HV1.out, hbV.setCell (p := ⟨w.heap.size, 2 * i + 1, none⟩) (Nat.le_refl _) _⟩
      case measure => simp [RowKit.intOf]; omega
    · have hge : 32 ≤ i := by omega
      have p1' : wr.rowIs w.heap.size 45 64 (bf T) := p1.congr (fun j hj => by rw [if_pos (by omega)])
      have hsl := slice_all64 wr w.heap.size
      have hcv := conv_row wr w.heap.size _ T 64 64 HTL.out p1'
      obtain ⟨S, hS⟩ : ∃ S : ByteArray, ⟨T.toArray⟩ = S := ⟨_, rfl⟩
      rw [hS] at hcv
      have HS : ∀ u : ByteArray, u = S → ⟨T.toArray⟩ = u := fun u hu => by rw [hS, hu]
      clear p1 p1' HTA hS
      go_wp2
      go_ret
      exact ⟨by rw [HS S rfl]; rfl, hbr⟩
end Go.Proofs.YtkgmkblcofedbaaDoor
