/-
  The walk of the program's Squeeze. Conditions: texts of at most a million bytes.
-/
import Derived.Test.YtfgpilkapipjbaaDoorKeep
namespace Go.Proofs.YtfgpilkapipjbaaDoor
open Go.RowKit
open Go.Lib

theorem sq_yes (ys : List Int) (g : Bool) (p : Int) (h : isBl p = true) : sqStep (ys, g) p = (ys, true) := by simp [sqStep, h]
theorem sq_two (ys : List Int) (p : Int) (h : isBl p = false) (h0 : ys ≠ []) : sqStep (ys, true) p = (ys ++ [32, p], false) := by
  simp only [sqStep, h, Bool.false_eq_true, if_false, true_and]; rw [if_pos h0]
theorem sq_one (ys : List Int) (g : Bool) (p : Int) (h : isBl p = false) (h0 : g = false ∨ ys = []) : sqStep (ys, g) p = (ys ++ [p], false) := by
  simp only [sqStep, h, Bool.false_eq_true, if_false]; rw [if_neg]
  rintro ⟨a, b⟩
  rcases h0 with h0 | h0
  · rw [a] at h0; cases h0
  · exact b h0
theorem enc_pos (ys : List Int) (h : ys ≠ []) : 0 < (byteCells (enc ys)).length := by
  cases ys with
  | nil => exact absurd rfl h
  | cons p l =>
    rw [byteCells_length, enc_cons, List.length_append]
    have := (encodeRune_length p).1
    omega
theorem byteCells_blank (ys : List Int) : byteCells (enc ys) ++ [Value.int .u8 32] = byteCells (enc (ys ++ [32])) := by
  rw [← byteCells_enc]
  rfl

set_option maxRecDepth 100000 in
set_option maxHeartbeats 2000000 in
theorem squeeze_any (s : ByteArray) (w : World) (hs : s.size ≤ 1000000) :
    Calls Tryd.prog 23 #[.string s] w fun e w' => e = .returned (.string ⟨(enc (sqOf (pts s.data.toList)).1).toArray⟩) ∧ Below w.heap.size w w' := by
  go_enter Tryd.func23, Tryd.ntmps23
  go_wp2
  go_loopw [4] (fun gb wr => ∃ (k : Nat) (ys : List Int) (g : Bool), k ≤ s.size ∧ gb = .bool g ∧ Lib.IsBuilderF 40 5 w.heap.size w.heap.size (byteCells (enc ys)) wr ∧ wr.heap[w.heap.size + 1]? = some (.stringIter s k) ∧ Below w.heap.size w wr ∧ ys.length ≤ 2 * k ∧ Hid ((ptsFrom s k).foldl sqStep (ys, g) = sqOf (pts s.data.toList)))
    (fun _ wr => s.size - wr.iterPos (w.heap.size + 1))
  case atStart =>
    refine ⟨0, [], false, Nat.zero_le _, rfl, (Lib.IsBuilderF.of (Lib.fresh_isBuilder 40 5 w)).alloc _, ?_, ((Below.refl _ w).alloc (Nat.le_refl _) _).alloc (by simp) _, by simp, by simp [Hid, ptsFrom, sqOf]⟩
    have := World.iter_heap (w.alloc (.cells #[.pointer none, .slice none 0 0] 40)) s 0
    simpa using this
  case round =>
    obtain ⟨k, ys, g, hk, rfl, hI, hit, hbw, hal, hac⟩ := hrel
    have hbsz : w.heap.size + 1 < wr.heap.size := (Array.getElem?_eq_some_iff.1 hit).1
    by_cases hlt : k < s.size
    · have hnx : ∀ ty, (Instr.next (.pointer (some ⟨w.heap.size + 1, 0, none⟩)) true ty).run Tryd.prog wr = _ := fun ty => Lib.run_next_any_at wr (w.heap.size + 1) s k ty hit hlt
      obtain ⟨hstep, hwd, hle, hru⟩ := ptsFrom_step s k hlt
      have hI2 := hI.iterAt hit (k + (Utf8.decode s k).2)
      have hit2 := Lib.iterAt_heap wr (w.heap.size + 1) s k (k + (Utf8.decode s k).2) hit
      have hbw2 := Lib.below_iterAt hbw (k := w.heap.size + 1) (by omega) s (k + (Utf8.decode s k).2)
      have hsz2 : w.heap.size ≤ (wr.iterAt (w.heap.size + 1) s (k + (Utf8.decode s k).2)).heap.size := by rw [Lib.iterAt_size]; omega
      have hm : s.size - (k + (Utf8.decode s k).2) < s.size - k := by omega
      have HIT0 := Lib.hid hit
      have hel := enc_length_le ys
      generalize Utf8.decode s k = d at *
      obtain ⟨p, n⟩ := d
      simp only at hwd hle hru hstep hnx hI2 hit2 hbw2 hsz2 hm
      generalize wr.iterAt (w.heap.size + 1) s (k + n) = wi at *
      have HIT := Lib.hid hit2
      clear hit2 hit hbw hI
      have H1 := Lib.hid (show (ptsFrom s (k + n)).foldl sqStep (sqStep (ys, g) (p : Int)) = sqOf (pts s.data.toList) by rw [← hac.out, hstep, List.foldl_cons])
      clear hstep
      have hlen : Calls Tryd.prog 37 #[.pointer (some ⟨w.heap.size, 0, none⟩)] wi fun e w' => e = .returned (.int .i64 (byteCells (enc ys)).length) ∧ wi = w' := (sbLen w.heap.size w.heap.size _ wi hI2).mono fun e w' ⟨a, b⟩ => ⟨a, b.symm⟩
      cases hin : isBl (p : Int) with
      | true =>
        have H2 := Lib.hid (show (ptsFrom s (k + n)).foldl sqStep (ys, true) = sqOf (pts s.data.toList) by rw [← H1.out, sq_yes _ _ _ hin])
        go_wp2_with (go_at_call 36; refine (isBlank_any _ _).mono ?_; rintro e w' ⟨rfl, rfl⟩)
        clear hin
        go_roundw
        case rel => exact ⟨k + n, ys, true, hle, rfl, hI2, HIT.out, hbw2, by omega, H2⟩
        case measure => rw [iterPos_of HIT.out, iterPos_of HIT0.out]; exact hm
      | false =>
        by_cases hg : g = true ∧ ys ≠ []
        · obtain ⟨rfl, hne⟩ := hg
          have H2 := Lib.hid (show (ptsFrom s (k + n)).foldl sqStep (ys ++ [32, (p : Int)], false) = sqOf (pts s.data.toList) by rw [← H1.out, sq_two _ _ hin hne])
          have hpos := enc_pos ys hne
          have hlenle : (byteCells (enc ys)).length ≤ 10000000 := by rw [Lib.byteCells_length]; omega
          have hb := sbByte w.heap.size w.heap.size _ 32 _ hI2 (by omega) hsz2
          rw [byteCells_blank] at hb
          obtain ⟨M, hM⟩ : ∃ M, (byteCells (enc ys)).length = M := ⟨_, rfl⟩
          rw [hM] at hlen hpos hlenle
          have HM := Lib.hid hM
          clear hM hne
          go_wp2_with (first | (go_at_call 36; refine (isBlank_any _ _).mono ?_; rintro e w' ⟨rfl, rfl⟩) | (go_at_call 37; refine hlen.mono ?_; rintro e w' ⟨rfl, rfl⟩))
          refine hb.mono ?_
          clear hb hlen
          rintro e W1 ⟨rfl, h1, b1, k1⟩
          have hbs1 := b1.size
          have hel2 := enc_length_le (ys ++ [32])
          have hel2 : (byteCells (enc (ys ++ [32]))).length ≤ 10000000 := by rw [Lib.byteCells_length]; simp at hel2; omega
          have hr := sbRune w.heap.size w.heap.size _ (p : Int) (by omega) (by omega) W1 (Or.inr h1) (by omega) (by omega)
          rw [byteCells_enc] at hr
          clear hel2
          go_wp2_with fail
          refine hr.mono ?_
          clear hr
          rintro e W2 ⟨rfl, h2, b2, k2⟩
          clear hin h1
          go_wp2
          go_roundw
          case rel =>
            refine ⟨k + n, ys ++ [32, (p : Int)], false, hle, rfl, ?_, k2.iter (k1.iter HIT.out (by omega)) (by omega), hbw2.trans (b1.trans b2), by simp; omega, H2⟩
            have : ys ++ [32, (p : Int)] = (ys ++ [32]) ++ [(p : Int)] := by simp
            rw [this]
            exact Or.inr h2
          case measure => rw [iterPos_of (k2.iter (k1.iter HIT.out (by omega)) (by omega)), iterPos_of HIT0.out]; exact hm
        · have hgc : g = false ∨ g = true ∧ ys = [] := by
            cases g with
            | false => exact .inl rfl
            | true => exact .inr ⟨rfl, Classical.byContradiction fun h => hg ⟨rfl, h⟩⟩
          have H2 := Lib.hid (show (ptsFrom s (k + n)).foldl sqStep (ys ++ [(p : Int)], false) = sqOf (pts s.data.toList) by rw [← H1.out, sq_one _ _ _ hin (hgc.imp id And.right)])
          have hr := sbRune w.heap.size w.heap.size _ (p : Int) (by omega) (by omega) wi hI2 (by rw [Lib.byteCells_length]; omega) hsz2
          rw [byteCells_enc] at hr
          clear hg H1 hac
          rcases hgc with rfl | ⟨rfl, rfl⟩
          · go_wp2_with (first | (go_at_call 36; refine (isBlank_any _ _).mono ?_; rintro e w' ⟨rfl, rfl⟩) | (go_at_call 37; refine hlen.mono ?_; rintro e w' ⟨rfl, rfl⟩))
            refine hr.mono ?_
            clear hr hlen
            rintro e W2 ⟨rfl, h2, b2, k2⟩
            clear hin
            go_wp2
            go_roundw
            case rel => exact ⟨k + n, _, false, hle, rfl, Or.inr h2, k2.iter HIT.out (by omega), hbw2.trans b2, by simp; omega, H2⟩
            case measure => rw [iterPos_of (k2.iter HIT.out (by omega)), iterPos_of HIT0.out]; exact hm
          · have hl0 : Calls Tryd.prog 37 #[.pointer (some ⟨w.heap.size, 0, none⟩)] wi fun e w' => e = .returned (.int .i64 0) ∧ wi = w' := hlen
            clear hlen
            go_wp2_with (first | (go_at_call 36; refine (isBlank_any _ _).mono ?_; rintro e w' ⟨rfl, rfl⟩) | (go_at_call 37; refine hl0.mono ?_; rintro e w' ⟨rfl, rfl⟩))
            refine hr.mono ?_
            clear hr hl0
            rintro e W2 ⟨rfl, h2, b2, k2⟩
            clear hin
            go_wp2
            go_roundw
            case rel => exact ⟨k + n, _, false, hle, rfl, Or.inr h2, k2.iter HIT.out (by omega), hbw2.trans b2, by simp; omega, H2⟩
            case measure => rw [iterPos_of (k2.iter HIT.out (by omega)), iterPos_of HIT0.out]; exact hm
    · have hnx : ∀ ty, (Instr.next (.pointer (some ⟨w.heap.size + 1, 0, none⟩)) true ty).run Tryd.prog wr = _ := fun ty => Lib.run_next_end_at wr (w.heap.size + 1) s k ty hit hlt
      have HE := Lib.hid (ptsFrom_end s k hlt)
      clear hit
      go_wp2_with fail
      refine (sbString w.heap.size w.heap.size (enc ys) _ hI (by omega)).mono ?_
      rintro e W1 ⟨rfl, _, b1, _⟩
      go_wp2
      go_ret
      have hq := hac.out
      rw [HE.out] at hq
      rw [← hq]
      exact ⟨rfl, hbw.trans b1⟩
end Go.Proofs.YtfgpilkapipjbaaDoor
