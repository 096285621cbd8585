/-
  Of the proofs of layer 7 (values of JSON): the parts Keep Make. No conditions.
-/
import Derived.Test.YtchgelfomnbpaaaDoorZ14
import Derived.Test.YtchgelfomnbpaaaDoorZ16
namespace Go.Proofs.YtchgelfomnbpaaaDoor
open Go.RowKit
open Go.Lib
/-- Every code point is kept. -/
def anyPt (_ : Int) : Bool := true
theorem rep1_any (r : Int) (w : World) : Calls Tryd.prog 84 #[.int .i32 r] w fun e w' => e = .returned (.bool (anyPt r)) ∧ w = w' := by
  go_enter Tryd.func84, Tryd.ntmps84
  go_wp2
  go_ret
  exact ⟨rfl, rfl⟩
/-- The points from place k on. -/
def ptsFrom (s : ByteArray) (k : Nat) : List Int := pts (s.data.toList.drop k)
theorem ptsFrom_step (s : ByteArray) (k : Nat) (h : k < s.size) : ptsFrom s k = ((Utf8.decode s k).1 : Int) :: ptsFrom s (k + (Utf8.decode s k).2) ∧ 1 ≤ (Utf8.decode s k).2 ∧ k + (Utf8.decode s k).2 ≤ s.size ∧ (Utf8.decode s k).1 ≤ 1114111 := by
  have hne : s.data.toList.drop k ≠ [] := by
    intro h
    have := congrArg List.length h
    simp at this
    omega
  have hstep := pts_cons (s.data.toList.drop k) hne
  have hle := decodeL_le (s.data.toList.drop k) hne
  have hwd := decodeL_width (s.data.toList.drop k)
  have hru := decodeL_rune (s.data.toList.drop k)
  rw [List.drop_drop] at hstep
  rw [List.length_drop] at hle
  rw [decodeL_drop] at hstep hle hwd hru
  refine ⟨hstep, hwd, ?_, hru⟩
  simp at hle
  omega
theorem ptsFrom_end (s : ByteArray) (k : Nat) (h : ¬ k < s.size) : ptsFrom s k = [] := by
  unfold ptsFrom
  rw [List.drop_of_length_le (by simp; omega)]
  rfl
theorem byteCells_enc (a : List Int) (p : Int) : byteCells (enc a) ++ runeCells p = byteCells (enc (a ++ [p])) := by
  rw [enc_append, byteCells_append, ← byteCells_encodeRune]
  simp [enc]

set_option maxRecDepth 100000 in
set_option maxHeartbeats 2000000 in
theorem keep_all (s : ByteArray) (w : World) (hs : s.size ≤ 2000000) :
    Calls Tryd.prog 83 #[.string s, .func (Fn.func 84) #[] #[]] w fun e w' => e = .returned (.string ⟨(enc ((pts s.data.toList).filter anyPt)).toArray⟩) ∧ Below w.heap.size w w' := by
  go_enter Tryd.func83, Tryd.ntmps83
  go_wp2
  go_loopw [] (fun wr => ∃ (k : Nat) (acc : List Int), k ≤ s.size ∧ Lib.IsBuilderF 61 5 w.heap.size w.heap.size (byteCells (enc acc)) wr ∧ wr.heap[w.heap.size + 1]? = some (.stringIter s k) ∧ Below w.heap.size w wr ∧ acc.length ≤ k ∧ Hid (acc ++ (ptsFrom s k).filter anyPt = (pts s.data.toList).filter anyPt))
    (fun wr => s.size - wr.iterPos (w.heap.size + 1))
  case atStart =>
    refine ⟨0, [], Nat.zero_le _, (Lib.IsBuilderF.of (Lib.fresh_isBuilder 61 5 w)).alloc _, ?_, ((Below.refl _ w).alloc (Nat.le_refl _) _).alloc (by simp) _, by simp, by simp [Hid, ptsFrom]⟩
    have := World.iter_heap (w.alloc (.cells #[.pointer none, .slice none 0 0] 61)) s 0
    simpa using this
  case round =>
    obtain ⟨k, acc, hk, hI, hit, hbw, hal, hac⟩ := hrel
    have hbsz : w.heap.size + 1 < wr.heap.size := (Array.getElem?_eq_some_iff.1 hit).1
    by_cases hlt : k < s.size
    · have hnx : ∀ ty, (Instr.next (.pointer (some ⟨w.heap.size + 1, 0, none⟩)) true ty).run Tryd.prog wr = _ := fun ty => Lib.run_next_any_at wr (w.heap.size + 1) s k ty hit hlt
      obtain ⟨hstep, hwd, hle, hru⟩ := ptsFrom_step s k hlt
      have hI2 := hI.iterAt hit (k + (Utf8.decode s k).2)
      have hit2 := Lib.iterAt_heap wr (w.heap.size + 1) s k (k + (Utf8.decode s k).2) hit
      have hbw2 := Lib.below_iterAt hbw (k := w.heap.size + 1) (by omega) s (k + (Utf8.decode s k).2)
      have hsz2 : w.heap.size ≤ (wr.iterAt (w.heap.size + 1) s (k + (Utf8.decode s k).2)).heap.size := by rw [Lib.iterAt_size]; omega
      have hm : s.size - (k + (Utf8.decode s k).2) < s.size - k := by omega
      have HIT0 := Lib.hid hit
      have hel := enc_length_le acc
      generalize Utf8.decode s k = d at *
      obtain ⟨p, n⟩ := d
      simp only at hwd hle hru hstep hnx hI2 hit2 hbw2 hsz2 hm
      generalize wr.iterAt (w.heap.size + 1) s (k + n) = wi at *
      have HIT := Lib.hid hit2
      clear hit2 hit hbw hI
      cases hin : anyPt (p : Int) with
      | true =>
        have H2 := Lib.hid (show (acc ++ [(p : Int)]) ++ (ptsFrom s (k + n)).filter anyPt = (pts s.data.toList).filter anyPt by rw [← hac.out, hstep, List.filter_cons, hin]; simp)
        clear hstep
        go_wp2_with (go_at_call 84; refine (rep1_any _ _).mono ?_; rintro e w' ⟨rfl, rfl⟩)
        refine (sbRune w.heap.size w.heap.size _ (p : Int) (by omega) (by omega) _ hI2 (by rw [Lib.byteCells_length]; omega) hsz2).mono ?_
        rintro e W1 ⟨rfl, h1, b1, k1⟩
        clear hin
        go_wp2
        go_roundw
        case rel =>
          refine ⟨k + n, acc ++ [(p : Int)], hle, ?_, k1.iter HIT.out (by omega), hbw2.trans b1, by simp; omega, H2⟩
          rw [← byteCells_enc]; exact Or.inr h1
        case measure => rw [iterPos_of (k1.iter HIT.out (by omega)), iterPos_of HIT0.out]; exact hm
      | false =>
        have H2 := Lib.hid (show acc ++ (ptsFrom s (k + n)).filter anyPt = (pts s.data.toList).filter anyPt by rw [← hac.out, hstep, List.filter_cons, hin]; simp)
        clear hstep
        go_wp2_with (go_at_call 84; refine (rep1_any _ _).mono ?_; rintro e w' ⟨rfl, rfl⟩)
        clear hin
        go_roundw
        case rel => exact ⟨k + n, acc, hle, hI2, HIT.out, hbw2, by omega, H2⟩
        case measure => rw [iterPos_of HIT.out, iterPos_of HIT0.out]; exact hm
    · have hnx : ∀ ty, (Instr.next (.pointer (some ⟨w.heap.size + 1, 0, none⟩)) true ty).run Tryd.prog wr = _ := fun ty => Lib.run_next_end_at wr (w.heap.size + 1) s k ty hit hlt
      have HE := Lib.hid (ptsFrom_end s k hlt)
      clear hit
      go_wp2_with fail
      refine (sbString w.heap.size w.heap.size (enc acc) _ hI (by omega)).mono ?_
      rintro e W1 ⟨rfl, _, b1, _⟩
      go_wp2
      go_ret
      have hq := hac.out
      rw [HE.out] at hq
      simp only [List.filter_nil, List.append_nil] at hq
      rw [← hq]
      exact ⟨rfl, hbw.trans b1⟩

theorem repair_any (s : ByteArray) (w : World) (hs : s.size ≤ 2000000) :
    Calls Tryd.prog 62 #[.string s] w fun e w' => e = .returned (.string ⟨(enc (pts s.data.toList)).toArray⟩) ∧ Below w.heap.size w w' := by
  have hc := keep_all s w hs
  rw [show (pts s.data.toList).filter anyPt = pts s.data.toList from List.filter_eq_self.2 fun _ _ => rfl] at hc
  go_enter Tryd.func62, Tryd.ntmps62
  go_wp2_with fail
  refine hc.mono ?_
  rintro e w1 ⟨rfl, hb⟩
  go_wp2
  go_ret
  exact ⟨rfl, hb⟩
end Go.Proofs.YtchgelfomnbpaaaDoor
namespace Go.Proofs.YtchgelfomnbpaaaDoor
open Go.RowKit
open Go.Lib

/-- What Make answers. -/
def MakeOut (l : List Int) (w : World) (e : Ending) (w' : World) : Prop :=
  (e = .returned (.tuple #[.string ⟨(if l.all isPt = true then enc l else []).toArray⟩, .int .i64 (if l.all isPt = true then 0 else 2)])) ∧ Below w.heap.size w w'
theorem MakeOut.good {l : List Int} {w w' : World} (h : l.all isPt = true) (hb : Below w.heap.size w w') : MakeOut l w (.returned (.tuple #[.string ⟨(enc l).toArray⟩, .int .i64 0])) w' := by
  unfold MakeOut; rw [if_pos h, if_pos h]; exact ⟨rfl, hb⟩
theorem MakeOut.bad {l : List Int} {w w' : World} (h : l.all isPt = false) (hb : Below w.heap.size w w') : MakeOut l w (.returned (.tuple #[.string ⟨#[]⟩, .int .i64 2])) w' := by
  unfold MakeOut; rw [h]; exact ⟨rfl, hb⟩
end Go.Proofs.YtchgelfomnbpaaaDoor
