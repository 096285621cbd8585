/-
  The walks of package esc's Json and Percent. Conditions: texts of at most a million bytes.
-/
import Derived.Test.YtoddghppbfehpaaDoorEJ
namespace Go.Proofs.YtoddghppbfehpaaDoor
open Go.RowKit
open Go.Lib

theorem jsn_nil : jsn [] = [] := rfl
/-- A text in quotes. -/
def jsonL (l : List UInt8) : List UInt8 := 34 :: enc (jsn (pts l)) ++ [34]
set_option maxRecDepth 100000 in
set_option maxHeartbeats 4000000 in
theorem json_any (s : ByteArray) (w : World) (hs : s.size ≤ 1000000) : Calls Tryd.prog 14 #[.string s] w fun e w' => e = .returned (.string ⟨(jsonL s.data.toList).toArray⟩) ∧ Below w.heap.size w w' := by
  have hp := fun W => repair_any s W hs
  have hL := pts_length_le s.data.toList
  rw [← size_list] at hL
  have HP := Lib.hid (pts_allPt s.data.toList)
  unfold jsonL
  generalize pts s.data.toList = zs at *
  have hel := enc_length_le zs
  obtain ⟨t, ht⟩ : ∃ t : ByteArray, t = ⟨(enc zs).toArray⟩ := ⟨_, rfl⟩
  rw [← ht] at hp
  have HT := Lib.hid (show pts t.data.toList = zs by rw [ht]; exact pts_enc' zs HP.out)
  have hts : t.size ≤ 4000000 := by rw [size_list, ht]; simp; omega
  rw [← HT.out]
  clear ht hel hL HP HT
  have hb0 := sbByte w.heap.size w.heap.size (byteCells []) ((34 : UInt8).toNat : Int) (w.alloc (.cells #[.pointer none, .slice none 0 0] 37)) (Lib.IsBuilderF.of (Lib.fresh_isBuilder 37 5 w)) (by simp [byteCells]) (by simp)
  rw [byteCells_one] at hb0
  go_enter Tryd.func14, Tryd.ntmps14
  go_wp2_with fail
  refine hb0.mono ?_
  clear hb0
  rintro e w0 ⟨rfl, g1, g2, g3⟩
  have hz0 : w.heap.size + 1 ≤ w0.heap.size := by have := g2.size; simp at this; omega
  have B0 : Below w.heap.size w w0 := ((Below.refl _ w).alloc (Nat.le_refl _) _).trans g2
  clear g2 g3
  go_wp2_with fail
  refine (hp _).mono ?_
  clear hp
  rintro e w1 ⟨rfl, b1⟩
  have hz1 : w.heap.size + 1 ≤ w1.heap.size := by have := b1.size; omega
  have hI0 : Lib.IsBuilderF 37 5 w.heap.size w.heap.size (byteCells (34 :: enc [])) w1 := bf_below (Or.inr g1) b1
  have B1 : Below w.heap.size w w1 := B0.trans (b1.mono (by omega))
  clear b1 B0 g1
  go_wp2
  go_loopw [] (fun wr => ∃ (k : Nat) (acc : List Int), k ≤ t.size ∧ Lib.IsBuilderF 37 5 w.heap.size w.heap.size (byteCells (34 :: enc acc)) wr ∧ wr.heap[w1.heap.size]? = some (.stringIter t k) ∧ Below w.heap.size w wr ∧ acc.length ≤ 6 * k ∧ Hid (acc ++ jsn (ptsFrom t k) = jsn (pts t.data.toList)))
    (fun wr => t.size - wr.iterPos w1.heap.size)
  case atStart => exact ⟨0, [], Nat.zero_le _, hI0.alloc _, World.iter_heap w1 t 0, B1.alloc (by omega) _, by simp, by simp [Hid, ptsFrom]⟩
  case round =>
    obtain ⟨k, acc, hk, hI, hit, hbw, hal, hac⟩ := hrel
    have hbsz : w1.heap.size < wr.heap.size := (Array.getElem?_eq_some_iff.1 hit).1
    have hel := enc_length_le acc
    by_cases hlt : k < t.size
    · have hnx : ∀ ty, (Instr.next (.pointer (some ⟨w1.heap.size, 0, none⟩)) true ty).run Tryd.prog wr = _ := fun ty => Lib.run_next_any_at wr w1.heap.size t k ty hit hlt
      obtain ⟨hstep, hwd, hle, hru⟩ := ptsFrom_step t k hlt
      have hI2 := hI.iterAt hit (k + (Utf8.decode t k).2)
      have hit2 := Lib.iterAt_heap wr w1.heap.size t k (k + (Utf8.decode t k).2) hit
      have hbw2 := Lib.below_iterAt hbw (k := w1.heap.size) (by omega) t (k + (Utf8.decode t k).2)
      have hsz2 : w.heap.size ≤ (wr.iterAt w1.heap.size t (k + (Utf8.decode t k).2)).heap.size := by rw [Lib.iterAt_size]; omega
      have hm : t.size - (k + (Utf8.decode t k).2) < t.size - k := by omega
      have HIT0 := Lib.hid hit
      generalize Utf8.decode t k = d at *
      obtain ⟨p, n⟩ := d
      simp only at hwd hle hru hstep hnx hI2 hit2 hbw2 hsz2 hm
      generalize wr.iterAt w1.heap.size t (k + n) = wi at *
      have HIT := Lib.hid hit2
      clear hit2 hit hbw hI
      have H2 := Lib.hid (show (acc ++ jP (p : Int)) ++ jsn (ptsFrom t (k + n)) = jsn (pts t.data.toList) by rw [← hac.out, hstep, jsn_cons, List.append_assoc])
      clear hstep
      have hpl := jP_length (p : Int)
      have HC := Lib.hid (show (34 :: enc acc) ++ enc (jP (p : Int)) = 34 :: enc (acc ++ jP (p : Int)) by rw [enc_append]; rfl)
      have hq := writeInQuotes_any w.heap.size w.heap.size (34 :: enc acc) (p : Int) wi (by omega) (by omega) hI2 (by rw [List.length_cons]; omega) hsz2
      rw [HC.out] at hq
      go_wp2_with fail
      refine hq.mono ?_
      clear hq
      rintro e w2 ⟨rfl, j1, j2, j3⟩
      go_wp2
      go_roundw
      case rel => exact ⟨k + n, acc ++ jP (p : Int), hle, Or.inr j1, j3.iter HIT.out (by omega), hbw2.trans j2, by rw [List.length_append]; omega, H2⟩
      case measure => rw [iterPos_of (j3.iter HIT.out (by omega)), iterPos_of HIT0.out]; exact hm
    · have hnx : ∀ ty, (Instr.next (.pointer (some ⟨w1.heap.size, 0, none⟩)) true ty).run Tryd.prog wr = _ := fun ty => Lib.run_next_end_at wr w1.heap.size t k ty hit hlt
      have HE := Lib.hid (ptsFrom_end t k hlt)
      clear hit
      have hr := sbByte w.heap.size w.heap.size (byteCells (34 :: enc acc)) ((34 : UInt8).toNat : Int) wr hI (by rw [Lib.byteCells_length, List.length_cons]; omega) (by omega)
      rw [byteCells_one] at hr
      go_wp2_with fail
      refine hr.mono ?_
      clear hr
      rintro e w2 ⟨rfl, j1, j2, j3⟩
      have hz2 := j2.size
      go_wp2_with fail
      refine (sbString w.heap.size w.heap.size (34 :: enc acc ++ [34]) _ (Or.inr j1) (by omega)).mono ?_
      rintro e w3 ⟨rfl, _, b3, _⟩
      go_wp2
      go_ret
      have hq := hac.out
      rw [HE.out, jsn_nil, List.append_nil] at hq
      rw [← hq]
      exact ⟨rfl, (hbw.trans j2).trans b3⟩

def digU : ByteArray := ⟨#[48, 49, 50, 51, 52, 53, 54, 55, 56, 57, 65, 66, 67, 68, 69, 70]⟩
theorem digU_size : digU.size = 16 := rfl
theorem digU_at : ∀ (d : Nat) (h : d < digU.size), digU[d] = hU d := by
  intro d h
  rw [digU_size] at h
  match d, h with
  | 0, _ => rfl
  | 1, _ => rfl
  | 2, _ => rfl
  | 3, _ => rfl
  | 4, _ => rfl
  | 5, _ => rfl
  | 6, _ => rfl
  | 7, _ => rfl
  | 8, _ => rfl
  | 9, _ => rfl
  | 10, _ => rfl
  | 11, _ => rfl
  | 12, _ => rfl
  | 13, _ => rfl
  | 14, _ => rfl
  | 15, _ => rfl
  | d + 16, h => exact absurd h (by omega)
theorem digU_run (k : IntKind) (W : World) (x : Int) (d : Nat) (hx0 : x = d) (hd : d < 16) : (Instr.index 9 (.string ⟨#[48, 49, 50, 51, 52, 53, 54, 55, 56, 57, 65, 66, 67, 68, 69, 70]⟩) (.int k x)).run Tryd.prog W = .ok (.int .u8 (hU d).toNat) W := by
  subst hx0
  have h := run_index_string (P := Tryd.prog) W 9 digU k (d : Int) Tryd.underlying9
  rw [dif_pos ⟨by omega, by rw [digU_size]; omega⟩] at h
  have e : digU[((d : Int)).toNat]'(by rw [digU_size]; omega) = hU d := digU_at d (by rw [digU_size]; exact hd)
  rw [e] at h
  exact h
set_option maxRecDepth 100000 in
set_option maxHeartbeats 4000000 in
theorem percent_any (s : ByteArray) (w : World) (hs : s.size ≤ 1000000) : Calls Tryd.prog 21 #[.string s] w fun e w' => e = .returned (.string ⟨(pct s.data.toList).toArray⟩) ∧ Below w.heap.size w w' := by
  go_enter Tryd.func21, Tryd.ntmps21
  go_wp2
  go_loopw [8] (fun i wr => ∃ k : Nat, k ≤ s.size ∧ i = .int .i64 k ∧ Lib.IsBuilderF 37 5 w.heap.size w.heap.size (byteCells (pct (s.data.toList.take k))) wr ∧ Below w.heap.size w wr ∧ w.heap.size < wr.heap.size) (fun i _ => s.size - (RowKit.intOf i).toNat)
  case atStart => exact ⟨0, Nat.zero_le _, rfl, Lib.IsBuilderF.of (Lib.fresh_isBuilder 37 5 w), (Below.refl _ w).alloc (Nat.le_refl _) _, by simp⟩
  case round =>
    obtain ⟨k, hk, rfl, hI, hbw, hbsz⟩ := hrel
    have hpl := pct_length (s.data.toList.take k)
    have hpl : (pct (s.data.toList.take k)).length ≤ 3000000 := by rw [List.length_take] at hpl; omega
    by_cases hlt : k < s.size
    · have HT := Lib.hid (show pct (s.data.toList.take (k + 1)) = pct (s.data.toList.take k) ++ pct1 s[k] by rw [take_snoc s k hlt, pct_snoc])
      have hst := fun W => stays_any s[k] W
      have HS := Lib.hid (show pct1 s[k] = if stays s[k] = true then [s[k]] else [37, hU (s[k].toNat / 16), hU (s[k].toNat % 16)] from rfl)
      have hc : s[k].toNat < 256 := UInt8.toNat_lt _
      generalize pct (s.data.toList.take k) = acc at *
      cases hb : stays s[k] with
      | true =>
        rw [hb] at hst
        have HV := Lib.hid (show pct1 s[k] = [s[k]] by rw [HS.out, hb]; rfl)
        clear hb
        have hr := sbByte w.heap.size w.heap.size (byteCells acc) (s[k].toNat : Int) wr hI (by rw [Lib.byteCells_length]; omega) (by omega)
        rw [byteCells_one] at hr
        go_wp2_with fail
        refine (hst _).mono ?_
        clear hst
        rintro e w' ⟨rfl, rfl⟩
        go_wp2_with fail
        (with_reducible refine hr.mono ?_)
        clear hr
        rintro e w2 ⟨rfl, j1, j2, j3⟩
        have hz := j2.size
        go_wp2
        go_roundw
        case rel => exact ⟨k + 1, by omega, by go_num, by rw [HT.out, HV.out]; exact Or.inr j1, hbw.trans j2, by omega⟩
        case measure => simp [RowKit.intOf]; omega
      | false =>
        rw [hb] at hst
        have HV := Lib.hid (show pct1 s[k] = [37, hU (s[k].toNat / 16), hU (s[k].toNat % 16)] by rw [HS.out, hb]; rfl)
        clear hb
        have hr := sbByte w.heap.size w.heap.size (byteCells acc) ((37 : UInt8).toNat : Int) wr hI (by rw [Lib.byteCells_length]; omega) (by omega)
        rw [byteCells_one] at hr
        have hr : Calls Tryd.prog 32 #[.pointer (some ⟨w.heap.size, 0, none⟩), .int .u8 37] wr _ := hr
        have hd1 : (s[k].toNat : Int) / 16 = ((s[k].toNat / 16 : Nat) : Int) := by omega
        have hq : (s[k].toNat : Int) % 16 = ((s[k].toNat % 16 : Nat) : Int) := by omega
        have i1 := fun W => digU_run .u8 W _ _ hd1 (by omega)
        have i2 := fun W => digU_run .u8 W _ _ hq (by omega)
        clear hd1 hq
        generalize s[k].toNat / 16 = d1 at *
        generalize s[k].toNat % 16 = d2 at *
        go_wp2_with fail
        refine (hst _).mono ?_
        clear hst
        rintro e w' ⟨rfl, rfl⟩
        go_wp2_with fail
        (with_reducible refine hr.mono ?_)
        clear hr
        rintro e w2 ⟨rfl, j1, j2, j3⟩
        have hz := j2.size
        have hr := sbByte w.heap.size w.heap.size _ ((hU d1).toNat : Int) w2 (Or.inr j1) (by rw [Lib.byteCells_length, List.length_append]; simp; omega) (by omega)
        rw [byteCells_one] at hr
        go_wp2_with fail
        (with_reducible refine hr.mono ?_)
        clear hr
        rintro e w3 ⟨rfl, l1, l2, l3⟩
        have hz3 := l2.size
        have hr := sbByte w.heap.size w.heap.size _ ((hU d2).toNat : Int) w3 (Or.inr l1) (by rw [Lib.byteCells_length, List.length_append, List.length_append]; simp; omega) (by omega)
        rw [byteCells_one] at hr
        go_wp2_with fail
        (with_reducible refine hr.mono ?_)
        clear hr
        rintro e w4 ⟨rfl, m1, m2, m3⟩
        have hz4 := m2.size
        go_wp2
        go_roundw
        case rel => exact ⟨k + 1, by omega, by go_num, by rw [HT.out, HV.out]; have q := m1; rw [List.append_assoc, List.append_assoc] at q; exact Or.inr q, ((hbw.trans j2).trans l2).trans m2, by omega⟩
        case measure => simp [RowKit.intOf]; omega
    · have HE := Lib.hid (show s.data.toList.take k = s.data.toList from List.take_of_length_le (by simp; omega))
      go_wp2_with fail
      refine (sbString w.heap.size w.heap.size (pct (s.data.toList.take k)) _ hI (by omega)).mono ?_
      rintro e w3 ⟨rfl, _, b3, _⟩
      go_wp2
      go_ret
      rw [HE.out]
      exact ⟨rfl, hbw.trans b3⟩
end Go.Proofs.YtoddghppbfehpaaDoor
