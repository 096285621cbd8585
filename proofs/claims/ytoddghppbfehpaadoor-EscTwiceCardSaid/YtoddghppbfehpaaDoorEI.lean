/-
  The walks of package esc's Unhtml and Html. Conditions: texts of at most a million bytes.
-/
import Derived.Test.YtoddghppbfehpaaDoorEH
namespace Go.Proofs.YtoddghppbfehpaaDoor
open Go.RowKit
open Go.Lib

theorem refW_le (l : List UInt8) : refW l ≤ l.length := by
  unfold refW
  split
  · omega
  · rename_i h
    rcases refQ_ok l with e | ⟨_, _, e, _⟩
    · rw [e] at h; exact absurd (by decide) h
    · omega
theorem refT_len (l : List UInt8) : (refT l).length ≤ 4 := by
  unfold refT
  split
  · simp
  · exact (encodeRune_length _).2
theorem unh_step (a r : List UInt8) (h : (38 : UInt8) ∉ a) : unh (a ++ 38 :: r) = a ++ (refT r ++ unh (r.drop (refW r))) := by
  rw [unh_pass _ _ h]
  congr 1
  unfold refT refW
  by_cases hh : (refQ r).1 < 0
  · rw [if_pos hh, if_pos hh, unh_amp r hh]; rfl
  · rw [if_neg hh, if_neg hh, unh_ref r hh]
theorem unh_end (a : List UInt8) (h : (38 : UInt8) ∉ a) : unh a = a := by
  have := unh_pass [] a h
  rw [List.append_nil, unh_nil, List.append_nil] at this
  exact this
theorem byteCells_str (a : List UInt8) (s : ByteArray) : byteCells a ++ Lib.strCells s = byteCells (a ++ s.data.toList) := by
  rw [Lib.strCells_eq, byteCells_append]
set_option maxRecDepth 100000 in
set_option maxHeartbeats 2000000 in
theorem unhtml_any (s : ByteArray) (w : World) (hs : s.size ≤ 1000000) : Calls Tryd.prog 12 #[.string s] w fun e w' => e = .returned (.string ⟨(unh s.data.toList).toArray⟩) ∧ Below w.heap.size w w' := by
  go_enter Tryd.func12, Tryd.ntmps12
  go_wp2
  go_loopw [0] (fun v wr => ∃ (r : ByteArray) (acc : List UInt8), v = .string r ∧ r.size ≤ 1000000 ∧ Lib.IsBuilderF 37 5 w.heap.size w.heap.size (byteCells acc) wr ∧ Below w.heap.size w wr ∧ w.heap.size < wr.heap.size ∧ acc.length + 4 * r.size ≤ 4000000 ∧ Hid (acc ++ unh r.data.toList = unh s.data.toList)) (fun v _ => strLen v)
  case atStart => exact ⟨s, [], rfl, hs, Lib.IsBuilderF.of (Lib.fresh_isBuilder 37 5 w), (Below.refl _ w).alloc (Nat.le_refl _) _, by simp, by simp; omega, by simp [Hid]⟩
  case round =>
    obtain ⟨r, acc, rfl, hr, hI, hbw, hbsz, hal, hac⟩ := hrel
    rcases index_or r.data.toList 38 with hi | ⟨i, hi⟩
    · have hc := cut_go r 38 _ _ _ wr (scut_no r 38 wr hi)
      have HE := Lib.hid (unh_end r.data.toList (index_not hi))
      clear hi
      go_wp2_with fail
      refine hc.mono ?_
      clear hc
      rintro e w1 ⟨rfl, b1⟩
      have hz1 := b1.size
      have hw := sbWrite w.heap.size w.heap.size _ r w1 (bf_below hI b1) (by rw [Lib.byteCells_length]; omega) (by omega)
      rw [byteCells_str] at hw
      go_wp2_with fail
      refine hw.mono ?_
      clear hw
      rintro e w2 ⟨rfl, h2, b2, k2⟩
      have hz2 := b2.size
      have hss := sbString w.heap.size w.heap.size (acc ++ r.data.toList) w2 (Or.inr h2) (by omega)
      go_wp2_with fail
      refine hss.mono ?_
      clear hss
      rintro e w3 ⟨rfl, _, b3, _⟩
      go_wp2
      go_ret
      refine ⟨?_, ((hbw.trans (b1.mono (by omega))).trans b2).trans b3⟩
      rw [← hac.out, HE.out]
      rfl
    · have hc := cut_go r 38 _ _ _ wr (scut_yes r 38 i wr hr hi)
      obtain ⟨i1, i2, i3⟩ := index_at hi
      have HB := Lib.hid (drop_extract r (i + 1))
      have HA := Lib.hid (take_extract r i)
      have HS := Lib.hid (unh_step _ (r.data.toList.drop (i + 1)) i3)
      rw [← i2, ← HB.out, ← HA.out] at HS
      have hbs : (r.extract (i + 1) r.size).size = r.size - (i + 1) := by simp
      have has : (r.extract 0 i).size = i := by simp; omega
      have HBS := Lib.hid hbs
      have HAS := Lib.hid has
      clear hi i2 i3 hbs has HB HA
      generalize r.extract (i + 1) r.size = rb at *
      generalize r.extract 0 i = ra at *
      have hrl := refW_le rb.data.toList
      rw [← size_list] at hrl
      have htl := refT_len rb.data.toList
      have hra := HAS.out
      have hrb := HBS.out
      have href := fun W => reference_any rb W (by omega)
      unfold RefOut at href
      obtain ⟨tx, htx⟩ : ∃ tx : ByteArray, tx = ⟨(refT rb.data.toList).toArray⟩ := ⟨_, rfl⟩
      have HTX := Lib.hid (show refT rb.data.toList = tx.data.toList by rw [htx])
      rw [← htx] at href
      rw [HTX.out, ← size_list] at htl
      clear htx
      have HD := Lib.hid (drop_extract rb (refW rb.data.toList))
      have hds : (rb.extract (refW rb.data.toList) rb.size).size = rb.size - refW rb.data.toList := by simp
      have HDS := Lib.hid hds
      clear hds
      generalize refW rb.data.toList = n at *
      have H2 := Lib.hid (show (acc ++ ra.data.toList ++ tx.data.toList) ++ unh (rb.extract n rb.size).data.toList = unh s.data.toList by
        rw [← hac.out, HS.out, HD.out, HTX.out]; simp)
      have hlr := size_list ra
      have hlt := size_list tx
      have HLR := Lib.hid hlr
      have HLT := Lib.hid hlt
      have HRA := Lib.hid hra
      have HRB := Lib.hid hrb
      have ha1 : ra.size ≤ i := by omega
      have ha2 : i ≤ ra.size := by omega
      have hb1 : rb.size + (i + 1) ≤ r.size := by omega
      clear hlr hlt hra hrb
      go_wp2_with fail
      refine hc.mono ?_
      clear hc
      rintro e w1 ⟨rfl, b1⟩
      have hz1 := b1.size
      have hw := sbWrite w.heap.size w.heap.size _ ra w1 (bf_below hI b1) (by rw [Lib.byteCells_length]; omega) (by omega)
      rw [byteCells_str] at hw
      go_wp2_with fail
      refine hw.mono ?_
      clear hw
      rintro e w2 ⟨rfl, h2, b2, k2⟩
      have hz2 := b2.size
      have hf := href w2
      clear href
      go_wp2_with fail
      refine hf.mono ?_
      clear hf
      rintro e w3 ⟨rfl, b3⟩
      have hz3 := b3.size
      have hI3 : Lib.IsBuilderF 37 5 w.heap.size w.heap.size (byteCells (acc ++ ra.data.toList)) w3 := bf_below (Or.inr h2) b3
      have hw := sbWrite w.heap.size w.heap.size _ tx w3 hI3 (by rw [Lib.byteCells_length, List.length_append, ← HLR.out]; omega) (by omega)
      rw [byteCells_str] at hw
      go_wp2_with fail
      refine hw.mono ?_
      clear hw
      rintro e w4 ⟨rfl, h4, b4, k4⟩
      have hz4 := b4.size
      go_wp2
      go_roundw
      case rel => exact ⟨rb.extract n rb.size, acc ++ ra.data.toList ++ tx.data.toList, rfl, by rw [HDS.out]; omega, Or.inr h4, (((hbw.trans (b1.mono (by omega))).trans b2).trans (b3.mono (by omega))).trans b4, by omega, by rw [List.length_append, List.length_append, ← HLR.out, ← HLT.out, HDS.out]; omega, H2⟩
      case measure => show (rb.extract n rb.size).size < r.size; rw [HDS.out]; omega

theorem piece (acc q : List Int) (l : List UInt8) (h : enc q = l) : byteCells (enc acc) ++ Lib.strCells ⟨l.toArray⟩ = byteCells (enc (acc ++ q)) := by
  rw [Lib.strCells_eq, enc_append, byteCells_append, h]
theorem hP_else (p : Int) (h1 : p ≠ 38) (h2 : p ≠ 60) (h3 : p ≠ 62) (h4 : p ≠ 34) (h5 : p ≠ 39) : hP p = [p] := by
  unfold hP; rw [if_neg h1, if_neg h2, if_neg h3, if_neg h4, if_neg h5]
set_option maxRecDepth 100000 in
set_option maxHeartbeats 4000000 in
theorem html_any (s : ByteArray) (w : World) (hs : s.size ≤ 1000000) : Calls Tryd.prog 10 #[.string s] w fun e w' => e = .returned (.string ⟨(enc (html ((pts s.data.toList).filter inXml))).toArray⟩) ∧ Below w.heap.size w w' := by
  have hp := fun W => plain_any s W hs
  have hL := pts_length_le s.data.toList
  rw [← size_list] at hL
  have hL2 := List.length_filter_le inXml (pts s.data.toList)
  have HP := Lib.hid (allPt_filter inXml (pts_allPt s.data.toList))
  generalize (pts s.data.toList).filter inXml = zs at *
  have hel := enc_length_le zs
  obtain ⟨t, ht⟩ : ∃ t : ByteArray, t = ⟨(enc zs).toArray⟩ := ⟨_, rfl⟩
  rw [← ht] at hp
  have HT := Lib.hid (show pts t.data.toList = zs by rw [ht]; exact pts_enc' zs HP.out)
  have hts : t.size ≤ 4000000 := by rw [size_list, ht]; simp; omega
  rw [← HT.out]
  clear ht hel hL2 hL HP HT
  go_enter Tryd.func10, Tryd.ntmps10
  go_wp2_with fail
  refine (hp _).mono ?_
  clear hp
  rintro e w1 ⟨rfl, b1⟩
  have hz1 : w.heap.size + 1 ≤ w1.heap.size := by have := b1.size; simp at this; omega
  have hI0 : Lib.IsBuilderF 37 5 w.heap.size w.heap.size (byteCells (enc [])) w1 := bf_below (Lib.IsBuilderF.of (Lib.fresh_isBuilder 37 5 w)) b1
  have B1 : Below w.heap.size w w1 := ((Below.refl _ w).alloc (Nat.le_refl _) _).trans (b1.mono (by simp))
  clear b1
  go_wp2
  go_loopw [] (fun wr => ∃ (k : Nat) (acc : List Int), k ≤ t.size ∧ Lib.IsBuilderF 37 5 w.heap.size w.heap.size (byteCells (enc acc)) wr ∧ wr.heap[w1.heap.size]? = some (.stringIter t k) ∧ Below w.heap.size w wr ∧ acc.length ≤ 6 * k ∧ Hid (acc ++ html (ptsFrom t k) = html (pts t.data.toList)))
    (fun wr => t.size - wr.iterPos w1.heap.size)
  case atStart => exact ⟨0, [], Nat.zero_le _, hI0.alloc _, World.iter_heap w1 t 0, B1.alloc (by omega) _, by simp, by simp [Hid, ptsFrom]⟩
  case round =>
    obtain ⟨k, acc, hk, hI, hit, hbw, hal, hac⟩ := hrel
    have hbsz : w1.heap.size < wr.heap.size := (Array.getElem?_eq_some_iff.1 hit).1
    by_cases hlt : k < t.size
    · have hnx : ∀ ty, (Instr.next (.pointer (some ⟨w1.heap.size, 0, none⟩)) true ty).run Tryd.prog wr = _ := fun ty => Lib.run_next_any_at wr w1.heap.size t k ty hit hlt
      obtain ⟨hstep, hwd, hle, hru⟩ := ptsFrom_step t k hlt
      have hI2 := hI.iterAt hit (k + (Utf8.decode t k).2)
      have hit2 := Lib.iterAt_heap wr w1.heap.size t k (k + (Utf8.decode t k).2) hit
      have hbw2 := Lib.below_iterAt hbw (k := w1.heap.size) (by omega) t (k + (Utf8.decode t k).2)
      have hsz2 : w.heap.size ≤ (wr.iterAt w1.heap.size t (k + (Utf8.decode t k).2)).heap.size := by rw [Lib.iterAt_size]; omega
      have hm : t.size - (k + (Utf8.decode t k).2) < t.size - k := by omega
      have HIT0 := Lib.hid hit
      have hel := enc_length_le acc
      generalize Utf8.decode t k = d at *
      obtain ⟨p, n⟩ := d
      simp only at hwd hle hru hstep hnx hI2 hit2 hbw2 hsz2 hm
      generalize wr.iterAt w1.heap.size t (k + n) = wi at *
      have HIT := Lib.hid hit2
      clear hit2 hit hbw hI
      have H2 := Lib.hid (show (acc ++ hP (p : Int)) ++ html (ptsFrom t (k + n)) = html (pts t.data.toList) by rw [← hac.out, hstep, html_cons, List.append_assoc])
      clear hstep
      have hpl := hP_length (p : Int)
      by_cases c1 : (p : Int) = 38
      · have b1 : ((p : Int) == 38) = true := by simpa using c1
        have HQ := Lib.hid (show enc (hP (p : Int)) = [38, 97, 109, 112, 59] by rw [c1]; decide +kernel)
        clear c1
        have hr := sbWrite w.heap.size w.heap.size (byteCells (enc acc)) ⟨#[38, 97, 109, 112, 59]⟩ _ hI2 (by rw [Lib.byteCells_length]; show _ + 5 ≤ _; omega) hsz2
        go_wp2_with fail
        refine hr.mono ?_
        clear hr
        rintro e W1 ⟨rfl, h1, b1', k1⟩
        go_wp2
        go_roundw
        case rel =>
          refine ⟨k + n, acc ++ hP (p : Int), hle, ?_, k1.iter HIT.out (by omega), hbw2.trans b1', by rw [List.length_append]; omega, H2⟩
          rw [← piece _ _ _ HQ.out]; exact Or.inr h1
        case measure => rw [iterPos_of (k1.iter HIT.out (by omega)), iterPos_of HIT0.out]; exact hm
      by_cases c2 : (p : Int) = 60
      · have b2 : ((p : Int) == 60) = true := by simpa using c2
        have b1 : ((p : Int) == 38) = false := by simpa using c1
        have HQ := Lib.hid (show enc (hP (p : Int)) = [38, 108, 116, 59] by rw [c2]; decide +kernel)
        clear c1 c2
        have hr := sbWrite w.heap.size w.heap.size (byteCells (enc acc)) ⟨#[38, 108, 116, 59]⟩ _ hI2 (by rw [Lib.byteCells_length]; show _ + 4 ≤ _; omega) hsz2
        go_wp2_with fail
        refine hr.mono ?_
        clear hr
        rintro e W1 ⟨rfl, h1, b1', k1⟩
        go_wp2
        go_roundw
        case rel =>
          refine ⟨k + n, acc ++ hP (p : Int), hle, ?_, k1.iter HIT.out (by omega), hbw2.trans b1', by rw [List.length_append]; omega, H2⟩
          rw [← piece _ _ _ HQ.out]; exact Or.inr h1
        case measure => rw [iterPos_of (k1.iter HIT.out (by omega)), iterPos_of HIT0.out]; exact hm
      by_cases c3 : (p : Int) = 62
      · have b3 : ((p : Int) == 62) = true := by simpa using c3
        have b1 : ((p : Int) == 38) = false := by simpa using c1
        have b2 : ((p : Int) == 60) = false := by simpa using c2
        have HQ := Lib.hid (show enc (hP (p : Int)) = [38, 103, 116, 59] by rw [c3]; decide +kernel)
        clear c1 c2 c3
        have hr := sbWrite w.heap.size w.heap.size (byteCells (enc acc)) ⟨#[38, 103, 116, 59]⟩ _ hI2 (by rw [Lib.byteCells_length]; show _ + 4 ≤ _; omega) hsz2
        go_wp2_with fail
        refine hr.mono ?_
        clear hr
        rintro e W1 ⟨rfl, h1, b1', k1⟩
        go_wp2
        go_roundw
        case rel =>
          refine ⟨k + n, acc ++ hP (p : Int), hle, ?_, k1.iter HIT.out (by omega), hbw2.trans b1', by rw [List.length_append]; omega, H2⟩
          rw [← piece _ _ _ HQ.out]; exact Or.inr h1
        case measure => rw [iterPos_of (k1.iter HIT.out (by omega)), iterPos_of HIT0.out]; exact hm
      by_cases c4 : (p : Int) = 34
      · have b4 : ((p : Int) == 34) = true := by simpa using c4
        have b1 : ((p : Int) == 38) = false := by simpa using c1
        have b2 : ((p : Int) == 60) = false := by simpa using c2
        have b3 : ((p : Int) == 62) = false := by simpa using c3
        have HQ := Lib.hid (show enc (hP (p : Int)) = [38, 113, 117, 111, 116, 59] by rw [c4]; decide +kernel)
        clear c1 c2 c3 c4
        have hr := sbWrite w.heap.size w.heap.size (byteCells (enc acc)) ⟨#[38, 113, 117, 111, 116, 59]⟩ _ hI2 (by rw [Lib.byteCells_length]; show _ + 6 ≤ _; omega) hsz2
        go_wp2_with fail
        refine hr.mono ?_
        clear hr
        rintro e W1 ⟨rfl, h1, b1', k1⟩
        go_wp2
        go_roundw
        case rel =>
          refine ⟨k + n, acc ++ hP (p : Int), hle, ?_, k1.iter HIT.out (by omega), hbw2.trans b1', by rw [List.length_append]; omega, H2⟩
          rw [← piece _ _ _ HQ.out]; exact Or.inr h1
        case measure => rw [iterPos_of (k1.iter HIT.out (by omega)), iterPos_of HIT0.out]; exact hm
      by_cases c5 : (p : Int) = 39
      · have b5 : ((p : Int) == 39) = true := by simpa using c5
        have b1 : ((p : Int) == 38) = false := by simpa using c1
        have b2 : ((p : Int) == 60) = false := by simpa using c2
        have b3 : ((p : Int) == 62) = false := by simpa using c3
        have b4 : ((p : Int) == 34) = false := by simpa using c4
        have HQ := Lib.hid (show enc (hP (p : Int)) = [38, 35, 51, 57, 59] by rw [c5]; decide +kernel)
        clear c1 c2 c3 c4 c5
        have hr := sbWrite w.heap.size w.heap.size (byteCells (enc acc)) ⟨#[38, 35, 51, 57, 59]⟩ _ hI2 (by rw [Lib.byteCells_length]; show _ + 5 ≤ _; omega) hsz2
        go_wp2_with fail
        refine hr.mono ?_
        clear hr
        rintro e W1 ⟨rfl, h1, b1', k1⟩
        go_wp2
        go_roundw
        case rel =>
          refine ⟨k + n, acc ++ hP (p : Int), hle, ?_, k1.iter HIT.out (by omega), hbw2.trans b1', by rw [List.length_append]; omega, H2⟩
          rw [← piece _ _ _ HQ.out]; exact Or.inr h1
        case measure => rw [iterPos_of (k1.iter HIT.out (by omega)), iterPos_of HIT0.out]; exact hm
      have b1 : ((p : Int) == 38) = false := by simpa using c1
      have b2 : ((p : Int) == 60) = false := by simpa using c2
      have b3 : ((p : Int) == 62) = false := by simpa using c3
      have b4 : ((p : Int) == 34) = false := by simpa using c4
      have b5 : ((p : Int) == 39) = false := by simpa using c5
      have HQ := Lib.hid (hP_else p c1 c2 c3 c4 c5)
      clear c1 c2 c3 c4 c5
      have hr := sbRune w.heap.size w.heap.size _ (p : Int) (by omega) (by omega) _ hI2 (by rw [Lib.byteCells_length]; omega) hsz2
      go_wp2_with fail
      refine hr.mono ?_
      clear hr
      rintro e W1 ⟨rfl, h1, b1', k1⟩
      go_wp2
      go_roundw
      case rel =>
        refine ⟨k + n, acc ++ hP (p : Int), hle, ?_, k1.iter HIT.out (by omega), hbw2.trans b1', by rw [List.length_append]; omega, H2⟩
        rw [HQ.out, ← byteCells_enc]; exact Or.inr h1
      case measure => rw [iterPos_of (k1.iter HIT.out (by omega)), iterPos_of HIT0.out]; exact hm
    · have hnx : ∀ ty, (Instr.next (.pointer (some ⟨w1.heap.size, 0, none⟩)) true ty).run Tryd.prog wr = _ := fun ty => Lib.run_next_end_at wr w1.heap.size t k ty hit hlt
      have HE := Lib.hid (ptsFrom_end t k hlt)
      clear hit
      go_wp2_with fail
      refine (sbString w.heap.size w.heap.size (enc acc) _ hI (by omega)).mono ?_
      rintro e W1 ⟨rfl, _, b1, _⟩
      go_wp2
      go_ret
      have hq := hac.out
      rw [HE.out, html_nil, List.append_nil] at hq
      rw [← hq]
      exact ⟨rfl, hbw.trans b1⟩
end Go.Proofs.YtoddghppbfehpaaDoor
