/-
  The walk of the document's Hex. Conditions: at most a thousand bytes.
-/
import Derived.Test.YtkgmkblcofedbaaDoorRS
import Derived.Laws.DeepStrings4
namespace Go.Proofs.YtkgmkblcofedbaaDoor
open Go.RowKit
open Go.Lib

theorem dig_slice (U : World) (q : Nat) (hq : q < 16) : (Instr.slice 9 (.string ⟨#[48, 49, 50, 51, 52, 53, 54, 55, 56, 57, 97, 98, 99, 100, 101, 102]⟩) (some (.int .u8 (q : Int))) (some (.int .u8 ((q + 1 : Nat) : Int))) none).run Tryd.prog U = .ok (.string ⟨#[dgt q]⟩) U := by
  have key : ∀ i : Fin 16, (⟨#[48, 49, 50, 51, 52, 53, 54, 55, 56, 57, 97, 98, 99, 100, 101, 102]⟩ : ByteArray).extract i.val (i.val + 1) = ⟨#[dgt i.val]⟩ := by decide
  rw [run_slice_string_if U 9 _ .u8 .u8 _ _ Tryd.underlying9]
  have hs : ((⟨#[48, 49, 50, 51, 52, 53, 54, 55, 56, 57, 97, 98, 99, 100, 101, 102]⟩ : ByteArray).size : Int) = 16 := by decide
  rw [if_pos (by rw [hs]; omega), if_pos (by omega)]
  simp only [Int.toNat_natCast]
  rw [key ⟨q, hq⟩]
theorem cat_list (a b : ByteArray) : (a ++ b).data.toList = a.data.toList ++ b.data.toList := by simp
theorem cat_size (a b : ByteArray) : (a ++ b).size = a.size + b.size := by simp
theorem hexP_snoc (l : List UInt8) (k : Nat) (b : UInt8) (hk : k < l.length) (hb : l.getD k 0 = b) : hexP (l.take (k + 1)) = hexP (l.take k) ++ [dgt (b.toNat / 16), dgt (b.toNat % 16)] := by
  have e : l[k] = b := by rw [← hb]; simp [List.getD, hk]
  rw [List.take_succ_eq_append_getElem hk, e]
  simp [hexP]
def StrIs (o : ByteArray) (l : List UInt8) : Prop := o.data.toList = l
set_option maxRecDepth 100000 in
set_option maxHeartbeats 2000000 in
theorem rhex_any (A : Option Addr) (c : Nat) (l : List UInt8) (n : Nat) (hn : l.length = n) (hl : n ≤ 1000) (w : World) (hr : RB w A l) :
    Calls Tryd.prog 11 #[.slice A n c] w fun e w' => e = .returned (.string ⟨(hexP l).toArray⟩) ∧ Below w.heap.size w w' := by
  have HN := Lib.hid hn
  clear hn
  go_enter Tryd.func11, Tryd.ntmps11
  go_wp2
  go_loopw [3, 9] (fun v i wr => ∃ (k : Nat) (o : ByteArray), k ≤ n ∧ i = .int .i64 k ∧ v = .string o ∧ o.size ≤ 2 * k ∧ Below w.heap.size w wr ∧ StrIs o (hexP (l.take k))) (fun _ i _ => n - (RowKit.intOf i).toNat)
  case atStart => exact ⟨0, ⟨#[]⟩, Nat.zero_le _, rfl, rfl, Nat.le_refl _, Below.refl _ _, rfl⟩
  case round =>
    obtain ⟨k, o, hk, rfl, rfl, hos, hbr, hst⟩ := hrel
    by_cases hkn : k < n
    · obtain ⟨bb, off, rfl, hbl, hcs⟩ := hr (by rw [HN.out]; omega)
      have ck : wr.cell? ⟨bb, off + k, none⟩ = some (bf l k) := (hbr.cell (p := ⟨bb, off + k, none⟩) hbl).trans (hcs k (by rw [HN.out]; exact hkn))
      obtain ⟨b, hb⟩ : ∃ b, l.getD k 0 = b := ⟨_, rfl⟩
      unfold bf at ck
      rw [hb] at ck
      have hsn := hexP_snoc l k b (by rw [HN.out]; exact hkn) hb
      have hbt := b.toNat_lt
      obtain ⟨q, hq⟩ : ∃ q, b.toNat / 16 = q := ⟨_, rfl⟩
      obtain ⟨r, hrr⟩ : ∃ r, b.toNat % 16 = r := ⟨_, rfl⟩
      rw [hq, hrr] at hsn
      have e1 : (b.toNat : Int) / 16 = (q : Int) := by omega
      have e2 : (b.toNat : Int) % 16 = (r : Int) := by omega
      have e1' : (b.toNat : Int).tdiv 16 = (q : Int) := by rw [Int.tdiv_eq_ediv_of_nonneg (by omega)]; exact e1
      have e2' : (b.toNat : Int).tmod 16 = (r : Int) := by rw [Int.tmod_eq_emod_of_nonneg (by omega)]; exact e2
      have wq : IntKind.u8.wrap (q : Int) = (q : Int) := by rw [IntKind.wrap_u8]; omega
      have wr' : IntKind.u8.wrap (r : Int) = (r : Int) := by rw [IntKind.wrap_u8]; omega
      have dq := fun U => dig_slice U q (by omega)
      have dr := fun U => dig_slice U r (by omega)
      obtain ⟨q1, hq1⟩ : ∃ z, q + 1 = z := ⟨_, rfl⟩
      obtain ⟨r1, hr1⟩ : ∃ z, r + 1 = z := ⟨_, rfl⟩
      rw [hq1] at dq
      rw [hr1] at dr
      have w1 : IntKind.u8.wrap ((q : Int) + 1) = (q1 : Int) := by rw [IntKind.wrap_u8]; omega
      have w2 : IntKind.u8.wrap ((r : Int) + 1) = (r1 : Int) := by rw [IntKind.wrap_u8]; omega
      obtain ⟨D1, hD1⟩ : ∃ z : ByteArray, ⟨#[dgt q]⟩ = z := ⟨_, rfl⟩
      obtain ⟨D2, hD2⟩ : ∃ z : ByteArray, ⟨#[dgt r]⟩ = z := ⟨_, rfl⟩
      have hd1s : D1.size = 1 := by rw [← hD1]; rfl
      have hd2s : D2.size = 1 := by rw [← hD2]; rfl
      obtain ⟨PQ, hPQ⟩ : ∃ z, D1 ++ D2 = z := ⟨_, rfl⟩
      obtain ⟨OQ, hOQ⟩ : ∃ z, o ++ PQ = z := ⟨_, rfl⟩
      have hPs : PQ.size = 2 := by rw [← hPQ, cat_size, hd1s, hd2s]
      have a1 : ∀ U, (Op.stringOp .add D1 D2).run Tryd.prog U = .ok (.string PQ) U := fun U => by rw [run_string_add_sum U _ _ (by omega), hPQ]
      have a2 : ∀ U, (Op.stringOp .add o PQ).run Tryd.prog U = .ok (.string OQ) U := fun U => by rw [run_string_add_sum U _ _ (by omega), hOQ]
      rw [hD1] at dq
      rw [hD2] at dr
      have hOs : OQ.size ≤ 2 * (k + 1) := by rw [← hOQ, cat_size, hPs]; omega
      have hST : ∀ u : ByteArray, u = OQ → StrIs u (hexP (l.take (k + 1))) := fun u hu => by
        unfold StrIs at hst ⊢
        rw [hu, ← hOQ, cat_list, hst, ← hPQ, cat_list, ← hD1, ← hD2, hsn]
        rfl
      have HOS := Lib.hid hOs
      clear hcs hb hsn hq hrr hq1 hr1 hD1 hD2 hPQ hOQ hd1s hd2s hPs hst hOs
      go_wp2
      go_quiet (fail)
      have hbq : Below w.heap.size w (wr.drewN nq) := below_drewN hbr _
      clear ck hbr
      generalize wr.drewN nq = V at *
      go_wp2
      go_roundw
      case rel => exact ⟨k + 1, OQ, by omega, by go_num, rfl, HOS.out, hbq, hST OQ rfl⟩
      case measure => simp [RowKit.intOf]; omega
    · have hfin : ∀ u : ByteArray, u = o → (⟨(hexP l).toArray⟩ : ByteArray) = u := fun u hu => by
        unfold StrIs at hst
        rw [List.take_of_length_le (by rw [HN.out]; omega)] at hst
        rw [hu, ← hst]
      clear hst
      go_wp2
      go_ret
      exact ⟨by rw [hfin o rfl]; rfl, hbr⟩
end Go.Proofs.YtkgmkblcofedbaaDoor
