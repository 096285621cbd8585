/-
  The walk of the program's Cut, with keep over the closure that counts down. Conditions: texts of at most a million bytes.
-/
import Derived.Test.YtfgpilkapipjbaaDoorMake
namespace Go.Proofs.YtfgpilkapipjbaaDoor
open Go.RowKit
open Go.Lib

theorem ret_str {a b : ByteArray} (h : a = b) : Ending.returned (.string a) = .returned (.string b) := by rw [h]
theorem cat_bytes (a b : List UInt8) : (⟨a.toArray⟩ : ByteArray) ++ ⟨b.toArray⟩ = ⟨(a ++ b).toArray⟩ := by
  apply ByteArray.ext
  simp
theorem set_block {w : World} {g : Nat} {t : TypeId} {a v : Value} (h : w.heap[g]? = some (.cells #[a] t (0, 0))) : (w.setCell ⟨g, 0, none⟩ v).heap[g]? = some (.cells #[v] t (0, 0)) := by
  simp [World.setCell, Array.getElem?_modify, h]
theorem blk_cell {w : World} {g : Nat} {t : TypeId} {a : Value} (h : w.heap[g]? = some (.cells #[a] t (0, 0))) : w.cell? ⟨g, 0, none⟩ = some a ∧ w.frozen? ⟨g, 0, none⟩ = false := by
  refine ⟨?_, ?_⟩
  · rw [Lib.cell_of_heap h]; rfl
  · exact Lib.frozen_of_heap h 0
/-- A builder stays one while a block below its own is written. -/
theorem builder_set {T e : TypeId} {B b : Nat} {bs : List Value} {w : World} (h : Lib.IsBuilderF T e B b bs w) {g : Nat} (hg : g < B) (v : Value) : Lib.IsBuilderF T e B b bs (w.setCell ⟨g, 0, none⟩ v) := by
  have one : ∀ p, Lib.BuilderAtF T e B b p bs w → Lib.BuilderAtF T e B b p bs (w.setCell ⟨g, 0, none⟩ v) := by
    rintro p ⟨hB, u, hb, hown, hne⟩
    refine ⟨hB, u, (Below.heap_setCell w _ v b (by show b ≠ g; omega)).trans hb, ⟨hown.1, ?_⟩, hne⟩
    rcases hown.2 with hn | ⟨k, cap, cur, fz, hv, hbk, hk, rest⟩
    · exact .inl hn
    · exact .inr ⟨k, cap, cur, fz, hv, hbk, (Below.heap_setCell w _ v k (by show k ≠ g; omega)).trans hk, rest⟩
  exact h.elim (fun x => .inl (one _ x)) (fun x => .inr (one _ x))
theorem count_pts (s : ByteArray) : ∀ (fuel k : Nat), s.size - k ≤ fuel → Lib.runeCountFrom s fuel k = (ptsFrom s k).length
  | 0, k, h => by rw [ptsFrom_end s k (by omega)]; rfl
  | f + 1, k, h => by
    unfold Lib.runeCountFrom
    by_cases hlt : k < s.size
    · obtain ⟨hstep, hwd, hle, _⟩ := ptsFrom_step s k hlt
      rw [if_pos hlt, hstep, List.length_cons, count_pts s f _ (by omega)]
      omega
    · rw [if_neg hlt, ptsFrom_end s k hlt]; rfl
theorem count_eq (s : ByteArray) : Lib.runeCount s = (pts s.data.toList).length := by
  unfold Lib.runeCount
  rw [count_pts s s.size 0 (by omega)]
  simp [ptsFrom]

theorem cut1_any (r : Int) (g : Nat) (v : Int) (w : World) (h0 : -10000000 ≤ v) (h1 : v ≤ 10000000) (hg : w.heap[g]? = some (.cells #[.int .i64 v] 3 (0, 0))) :
    Calls Tryd.prog 40 #[.int .i32 r, .pointer (some ⟨g, 0, none⟩)] w fun e w' => e = .returned (.bool (decide (1 ≤ v))) ∧ w' = w.setCell ⟨g, 0, none⟩ (.int .i64 (v - 1)) := by
  obtain ⟨hc, hf⟩ := blk_cell hg
  have hc2 := (blk_cell (set_block (v := .int .i64 (v - 1)) hg)).1
  clear hg
  go_enter Tryd.func40, Tryd.ntmps40
  go_wp2
  go_ret
  exact ⟨rfl, rfl⟩

set_option maxRecDepth 100000 in
set_option maxHeartbeats 2000000 in
theorem keep_cut (s : ByteArray) (g m : Nat) (w : World) (hs : s.size ≤ 1000000) (hm : m ≤ 1000000) (hg : w.heap[g]? = some (.cells #[.int .i64 m] 3 (0, 0))) :
    Calls Tryd.prog 33 #[.string s, .func (Fn.func 40) #[] #[.pointer (some ⟨g, 0, none⟩)]] w fun e w' => e = .returned (.string ⟨(enc ((pts s.data.toList).take m)).toArray⟩) ∧ Below g w w' := by
  have hgw : g < w.heap.size := (Array.getElem?_eq_some_iff.1 hg).1
  have HG := Lib.hid hg
  clear hg
  go_enter Tryd.func33, Tryd.ntmps33
  go_wp2
  go_loopw [] (fun wr => ∃ (k : Nat) (acc : List Int) (r : Int), k ≤ s.size ∧ Hid (wr.heap[g]? = some (.cells #[.int .i64 r] 3 (0, 0))) ∧ -(k : Int) ≤ r ∧ r ≤ 1000000 ∧ Lib.IsBuilderF 40 5 w.heap.size w.heap.size (byteCells (enc acc)) wr ∧ wr.heap[w.heap.size + 1]? = some (.stringIter s k) ∧ Below g w wr ∧ acc.length ≤ k ∧ Hid (acc ++ (ptsFrom s k).take r.toNat = (pts s.data.toList).take m))
    (fun wr => s.size - wr.iterPos (w.heap.size + 1))
  case atStart =>
    refine ⟨0, [], m, Nat.zero_le _, ?_, by omega, by omega, (Lib.IsBuilderF.of (Lib.fresh_isBuilder 40 5 w)).alloc _, ?_, ((Below.refl _ w).alloc (by omega) _).alloc (by simp; omega) _, by simp, by simp [Hid, ptsFrom]⟩
    · exact (Below.heap_alloc (w.alloc _) (.stringIter s 0) g (by simp; omega)).trans ((Below.heap_alloc w _ g hgw).trans HG.out)
    · have := World.iter_heap (w.alloc (.cells #[.pointer none, .slice none 0 0] 40)) s 0
      simpa using this
  case round =>
    obtain ⟨k, acc, r, hk, hgr, hr0, hr1, hI, hit, hbw, hal, hac⟩ := hrel
    have hbsz : w.heap.size + 1 < wr.heap.size := (Array.getElem?_eq_some_iff.1 hit).1
    by_cases hlt : k < s.size
    · have hnx : ∀ ty, (Instr.next (.pointer (some ⟨w.heap.size + 1, 0, none⟩)) true ty).run Tryd.prog wr = _ := fun ty => Lib.run_next_any_at wr (w.heap.size + 1) s k ty hit hlt
      obtain ⟨hstep, hwd, hle, hru⟩ := ptsFrom_step s k hlt
      have hI2 := hI.iterAt hit (k + (Utf8.decode s k).2)
      have hit2 := Lib.iterAt_heap wr (w.heap.size + 1) s k (k + (Utf8.decode s k).2) hit
      have hbw2 := Lib.below_iterAt hbw (k := w.heap.size + 1) (by omega) s (k + (Utf8.decode s k).2)
      have hgi : (wr.iterAt (w.heap.size + 1) s (k + (Utf8.decode s k).2)).heap[g]? = some (.cells #[.int .i64 r] 3 (0, 0)) := by rw [Lib.iterAt_other _ _ _ _ _ (by omega)]; exact hgr.out
      have hsz2 : (wr.iterAt (w.heap.size + 1) s (k + (Utf8.decode s k).2)).heap.size = wr.heap.size := Lib.iterAt_size _ _ _ _
      have hms : s.size - (k + (Utf8.decode s k).2) < s.size - k := by omega
      have HIT0 := Lib.hid hit
      have hel := enc_length_le acc
      generalize Utf8.decode s k = d at *
      obtain ⟨p, n⟩ := d
      simp only at hwd hle hru hstep hnx hI2 hit2 hbw2 hsz2 hms hgi
      generalize wr.iterAt (w.heap.size + 1) s (k + n) = wi at *
      have hws : w.heap.size ≤ wi.heap.size := by rw [hsz2]; omega
      clear hit hbw hI hsz2
      have hcl := cut1_any (p : Int) g r wi (by omega) (by omega) hgi
      have hI3 := builder_set hI2 hgw (.int .i64 (r - 1))
      have HIT : Hid ((wi.setCell ⟨g, 0, none⟩ (.int .i64 (r - 1))).heap[w.heap.size + 1]? = some (.stringIter s (k + n))) := by
        show _ = _
        rw [Below.heap_setCell _ _ _ _ (by show w.heap.size + 1 ≠ g; omega)]; exact hit2
      have hbw3 := hbw2.setCell (p := ⟨g, 0, none⟩) (Nat.le_refl _) (.int .i64 (r - 1))
      have HGI := Lib.hid (set_block (v := .int .i64 (r - 1)) hgi)
      have hws3 : w.heap.size ≤ (wi.setCell ⟨g, 0, none⟩ (.int .i64 (r - 1))).heap.size := by simp; omega
      clear hit2 hbw2 hI2 hgi hgr hws
      generalize wi.setCell ⟨g, 0, none⟩ (.int .i64 (r - 1)) = wj at *
      by_cases hr : 1 ≤ r
      · have H2 := Lib.hid (show (acc ++ [(p : Int)]) ++ (ptsFrom s (k + n)).take (r - 1).toNat = (pts s.data.toList).take m by
          rw [← hac.out, hstep, show r.toNat = (r - 1).toNat + 1 by omega, List.take_succ_cons]; simp)
        clear hstep
        have hd : decide (1 ≤ r) = true := by simpa using hr
        rw [hd] at hcl
        clear hd
        go_wp2_with (go_at_call 40; refine hcl.mono ?_; rintro e w' ⟨rfl, rfl⟩)
        refine (sbRune w.heap.size w.heap.size _ (p : Int) (by omega) (by omega) _ hI3 (by rw [Lib.byteCells_length]; omega) hws3).mono ?_
        rintro e W1 ⟨rfl, h1, b1, k1⟩
        clear hcl
        go_wp2
        go_roundw
        case rel =>
          refine ⟨k + n, acc ++ [(p : Int)], r - 1, hle, ?_, by omega, by omega, ?_, k1.iter HIT.out (by omega), hbw3.trans (b1.mono (by omega)), by simp; omega, H2⟩
          · exact k1 g _ HGI.out (by simp; omega) (fun c fz h => by injection h with _ h2; exact absurd h2 (by decide))
          · rw [← byteCells_enc]; exact Or.inr h1
        case measure => rw [iterPos_of (k1.iter HIT.out (by omega)), iterPos_of HIT0.out]; exact hms
      · have H2 := Lib.hid (show acc ++ (ptsFrom s (k + n)).take (r - 1).toNat = (pts s.data.toList).take m by
          rw [← hac.out, show r.toNat = 0 by omega, show (r - 1).toNat = 0 by omega]; simp)
        clear hstep
        have hd : decide (1 ≤ r) = false := by simpa using hr
        rw [hd] at hcl
        clear hd
        go_wp2_with (go_at_call 40; refine hcl.mono ?_; rintro e w' ⟨rfl, rfl⟩)
        go_roundw
        case rel => exact ⟨k + n, acc, r - 1, hle, HGI, by omega, by omega, hI3, HIT.out, hbw3, by omega, H2⟩
        case measure => rw [iterPos_of HIT.out, iterPos_of HIT0.out]; exact hms
    · have hnx : ∀ ty, (Instr.next (.pointer (some ⟨w.heap.size + 1, 0, none⟩)) true ty).run Tryd.prog wr = _ := fun ty => Lib.run_next_end_at wr (w.heap.size + 1) s k ty hit hlt
      have HE := Lib.hid (ptsFrom_end s k hlt)
      clear hit
      go_wp2_with fail
      refine (sbString w.heap.size w.heap.size (enc acc) _ hI (by omega)).mono ?_
      rintro e W1 ⟨rfl, _, b1, _⟩
      go_wp2
      go_ret
      have hq := hac.out
      rw [HE.out] at hq
      simp only [List.take_nil, List.append_nil] at hq
      rw [← hq]
      exact ⟨rfl, hbw.trans (b1.mono (by omega))⟩
set_option maxRecDepth 100000 in
set_option maxHeartbeats 2000000 in
theorem cut_any (s : ByteArray) (n : Int) (w : World) (hs : s.size ≤ 1000000) :
    Calls Tryd.prog 25 #[.string s, .int .i64 n] w fun e w' => e = .returned (.string ⟨(enc (cutOf (pts s.data.toList) n)).toArray⟩) ∧ Below w.heap.size w w' := by
  have hmf : ∀ (fn : Fn) (first cap : Array Value) (w : World), (Instr.makeFunc fn first cap).run Tryd.prog w = .ok (.func fn first cap) w := fun _ _ _ _ => rfl
  have hL := pts_length_le s.data.toList
  have hL : (pts s.data.toList).length ≤ 1000000 := by simp at hL; omega
  have hcnt := libCount s w (by omega)
  rw [count_eq] at hcnt
  by_cases h1 : n < 1
  · have HC := Lib.hid (show cutOf (pts s.data.toList) n = [] by unfold cutOf; rw [if_pos h1])
    clear hcnt
    go_enter Tryd.func25, Tryd.ntmps25
    go_wp2
    go_ret
    rw [HC.out]
    exact ⟨rfl, Below.refl _ _⟩
  by_cases h2 : n < (pts s.data.toList).length
  · obtain ⟨m, rfl⟩ : ∃ m : Nat, n = (m : Int) + 1 := ⟨(n - 1).toNat, by omega⟩
    have HC := Lib.hid (show cutOf (pts s.data.toList) ((m : Int) + 1) = (pts s.data.toList).take m ++ [8230] by unfold cutOf; rw [if_neg h1, if_pos h2]; congr 2; omega)
    have hk := fun (g : Nat) (W : World) => keep_cut s g m W hs (by omega)
    generalize hzs : pts s.data.toList = zs at *
    go_enter Tryd.func25, Tryd.ntmps25
    go_wp2_with fail
    refine hcnt.mono ?_
    clear hcnt
    rintro e w1 ⟨rfl, pos, rfl⟩
    have hb0 : Below w.heap.size w (w.iter s pos) := (Below.refl _ w).alloc (Nat.le_refl _) _
    have hbz := hb0.size
    generalize w.iter s pos = wi at *
    go_wp2_with fail
    refine (hk _ _ (heap_alloc_new _ _)).mono ?_
    clear hk
    rintro e w2 ⟨rfl, hb2⟩
    have hsz : (enc (zs.take m)).length ≤ 4000000 := by
      have := enc_length_le (zs.take m)
      have := List.length_take_le m zs
      omega
    go_wp2
    go_ret
    rw [HC.out]
    refine ⟨?_, hb0.trans ((((Below.refl _ wi).alloc (Nat.le_refl _) _).trans hb2).mono hbz)⟩
    exact ret_str (by rw [enc_append]; exact cat_bytes _ (enc [8230]))
  · have HC := Lib.hid (show cutOf (pts s.data.toList) n = pts s.data.toList by unfold cutOf; rw [if_neg h1, if_neg h2])
    have hrp := fun W => repair_any s W hs
    generalize hzs : pts s.data.toList = zs at *
    go_enter Tryd.func25, Tryd.ntmps25
    go_wp2_with fail
    refine hcnt.mono ?_
    clear hcnt
    rintro e w1 ⟨rfl, pos, rfl⟩
    have hb0 : Below w.heap.size w (w.iter s pos) := (Below.refl _ w).alloc (Nat.le_refl _) _
    generalize w.iter s pos = wi at *
    have hrw := hrp wi
    clear hrp
    go_wp2_with fail
    refine hrw.mono ?_
    rintro e w2 ⟨rfl, hb2⟩
    go_wp2
    go_ret
    rw [HC.out]
    exact ⟨rfl, hb0.trans (hb2.mono hb0.size)⟩
end Go.Proofs.YtfgpilkapipjbaaDoor
