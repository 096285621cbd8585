/-
  The walks of package vfs's List and New. Conditions: a disk of a modest size.
-/
import Derived.Test.YtbodkjifpmencaaGreatY11
import Derived.Sort.OwnSorted
namespace Go.Proofs.YtbodkjifpmencaaGreat
open Go.RowKit
open Go.Lib
open Go.Sort
open Go.Maps (keyOf_str)

theorem Tryz.infoStr : (Tryz.prog.info? 9).map (fun i => (i.zero, i.size, i.bytes)) = some (some (.string ⟨#[]⟩), 1, 16) := by kernel_rfl
theorem grown_refl (w : World) (row : Option Nat) : w.grownBy w row := ⟨rfl, rfl, rfl, Nat.le_refl _, fun _ _ _ => rfl⟩
/-- The library's sort at a row that the call owns. -/
theorem sort_row {w : World} {base : Nat} (ls : List Bs) (v : Value) (h : w.ownsRow base 9 1 v ls.length (ls.map encStr)) (hl : ls.length ≤ 1048576) :
    Calls Tryz.prog 40 #[v] w fun e w' => e = .returned (.tuple #[]) ∧ w'.ownsRow base 9 1 v (ls.mergeSort leB2).length ((ls.mergeSort leB2).map encStr) ∧ w.grownBy w' v.ownBlock := by
  have hlen : (ls.mergeSort leB2).length = ls.length := (List.mergeSort_perm _ _).length_eq
  rcases h.2 with ⟨rfl, hn⟩ | ⟨g, cap, cur, rfl, hbase, hb, h1, h2, h3, h4⟩
  · have h0 : ls = [] := List.eq_nil_of_length_eq_zero hn
    subst h0
    refine (AnyM.slices_Sort_string_none Tryz.sortS none 0 w).mono fun e w' ⟨h1, h2⟩ => ?_
    subst h2
    exact ⟨h1, by rw [List.mergeSort_nil]; exact World.ownsRow_nil _ _ _ _, grown_refl _ _⟩
  · refine (AnyM.slices_Sort_string Tryz.sortS g 0 cap ls w (holds_of_block hb (by simpa using h4)) (Array.getElem?_eq_some_iff.1 hb).1 (by omega)).mono fun e w' ⟨hr, n, os, hw⟩ => ?_
    subst hw
    refine ⟨hr, ?_, grownBy_sorted _⟩
    rw [hlen]
    exact ownsRow_sorted hlen hbase hb h1 h2 h3
def filt (d : Bs) (ss : List Bs) : List Bs := ss.filter fun p => dirL p == d
theorem filt_yes (d : Bs) (ss : List Bs) (p : Bs) (h : dirL p = d) : filt d (ss ++ [p]) = filt d ss ++ [p] := by simp [filt, h]
theorem filt_no (d : Bs) (ss : List Bs) (p : Bs) (h : dirL p ≠ d) : filt d (ss ++ [p]) = filt d ss := by simp [filt, h]
theorem filt_len (d : Bs) (ss : List Bs) : (filt d ss).length ≤ ss.length := List.length_filter_le _ _
theorem listQ_filt {q : Q} {ss : List Bs} (h : ss.Perm (q.names.map (·.1))) (d : Bs) : (filt d ss).mergeSort leB2 = listQ q d := mergeSort_of_perm (h.filter _)
set_option maxRecDepth 100000 in
set_option maxHeartbeats 1000000 in
theorem list_any {L : Lay} {q : Q} {w : World} (H : QD L q w) {N : Nat} (hS : Small N q) (hN : N ≤ 1048576) (s : ByteArray) : Calls Tryz.prog 16 #[ptr L.d, .string s] w fun e w' => ∃ v, e = .returned v ∧ w'.ownsRow w.heap.size 9 1 v (listQ q s.data.toList).length ((listQ q s.data.toList).map encStr) ∧ Below w.heap.size w w' := by
  obtain ⟨hd, es, hown, hperm⟩ := H.names
  have hkp : ∃ D, D = DataW.map es ∧ (strKeys D).Perm (q.names.map (·.1)) ∧ Maps.size D = q.names.length := by
    refine ⟨_, rfl, ?_, ?_⟩
    · have := hperm.map fun p => strOf p.1
      unfold datE at this
      rw [List.map_map] at this
      rw [← keys_entN L q.names]
      exact this
    · rw [Maps.size_eq, hperm.length_eq, length_datE]; simp [entN]
  obtain ⟨D, hD, hkeys, hsz⟩ := hkp
  have hat0 : ∀ x c, (∀ zd : DataW Value, D.atKey (.string x) zd = .held c) → ∃ k, look q.names x = some k ∧ c = ptr (L.bl k) := fun x c h => by rw [hD] at h; exact elem_names hperm hd h
  rw [← hD] at hown
  generalize (entN L q.names).length = n at hown
  have hmn := hown.lt
  have c1 := H.c1
  obtain ⟨i0, hi, hz0, hz1, hz2⟩ := info_parts Tryz.infoStr
  have HS := Lib.hid hS
  have HAT := Lib.hid hat0
  have HKE := Lib.hid hkeys
  have HSZ := Lib.hid hsz
  have HO := Lib.hid hown
  have hnn := hS.nn
  obtain ⟨d, hdd⟩ : ∃ x, s.data.toList = x := ⟨_, rfl⟩
  have HDD := Lib.hid hdd
  rw [hdd]
  clear hd hperm hD hkeys hat0 H hS hsz hdd
  unfold ptr
  go_enter Tryz.func16, Tryz.ntmps16
  go_wp2_with (at_range; refine wpList_range_own _ rfl _ 54 rfl 9 70 KS Tryz.underlying54 hR L.mn n D rfl hown ?_; intro w0 hrg0 hg0 hs0)
  go_frame
  clear c1 hown
  go_loopw [5] (fun u wr => ∃ (left : Lit → Bool) (cnt : Nat) (ss : List Bs), wr.ranges Tryz.prog 9 hR L.mn w.heap.size n D left cnt ∧ Collected D left ss ∧ ss.length + cnt ≤ q.names.length ∧ Hid (wr.ownsRow w.heap.size 9 1 u (filt d ss).length ((filt d ss).map encStr)) ∧ Below w.heap.size w wr) (fun _ wr => wr.rangeLeft L.mn w.heap.size)
  case atStart => exact ⟨_, _, [], hrg0, Collected.start D, by simp [HSZ.out], Lib.hid (World.ownsRow_nil _ _ _ _), (Below.refl _ _).grown hg0 (Nat.le_refl _) (fun j hj => by cases hj)⟩
  case round =>
    clear hrg0 hg0 hs0
    obtain ⟨left, cnt, ss, hrg, hC, hle, HROW, hb⟩ := hrel
    go_wp2_with (at_next; refine wpList_next_ranges _ rfl _ rfl 9 KS hR encStr (fun v : Value => v) (fun key kl hk => by obtain ⟨x, hx, _⟩ := keyOf_str Tryz.underlying9 hk; exact ⟨x, hx⟩) (fun v y _ => ⟨v, rfl⟩) L.mn w.heap.size n _ _ _ rfl hrg ?_ ?_)
    · intro hc0 hl0
      have hp := hC.perm HO.out KS Tryz.underlying9 hl0
      have hfl := filt_len d ss
      have hsr := sort_row (filt d ss) _ HROW.out (by have := HS.out.nn; omega)
      rw [listQ_filt (hp.trans HKE.out)] at hsr
      have HSR := Lib.hid hsr
      clear hsr
      go_wp2_with (go_at_call 40; (with_reducible refine HSR.out.mono ?_); rintro e w3 ⟨rfl, hr3, hg3⟩)
      go_ret
      exact ⟨_, rfl, hr3, hb.grown hg3 hb.size (fun j hj => (HROW.out.lt j hj).1)⟩
    · intro x c kl yd yp w2 cnt2 hkey hlk hv hat hrg2 hlt hg2 hs2 hen
      obtain ⟨x', ex, rfl, _⟩ := keyOf_str Tryz.underlying9 hkey
      obtain rfl : x = x' := encStr_inj ex
      obtain rfl := hR_inv hv
      obtain ⟨k, hk, rfl⟩ := HAT.out x c hat
      have hxl : x.length ≤ 161 := (HS.out.kn _ (look_mem hk)).1
      have hb2 : Below w.heap.size w w2 := hb.grown hg2 hb.size (fun j hj => by cases hj; exact Nat.le_refl _)
      have hr2 := own_off HROW.out (Off.of_grown hg2) (fun b hb e => row_ne_iter HROW.out hrg (e.trans hb.symm))
      have hdir : Calls Tryz.prog 38 #[encStr x] w2 fun e w' => e = .returned (.string (bs (dirL x))) ∧ Below w2.heap.size w2 w' := by
        have := directory_any (bs x) w2 (by rw [bs_size]; omega)
        rw [bs_list] at this
        exact this
      have hcl : ∀ W, Calls Tryz.prog 39 #[encStr x] W fun e w' => e = .returned (encStr x) ∧ Below W.heap.size W w' := fun W => clone_any (bs x) W (by rw [bs_size]; omega)
      have hlen : (filt d ss).length ≤ 1048576 := by have := filt_len d ss; omega
      have HC := Lib.hid (hC.step hlk hat)
      have HROW2 := Lib.hid hr2
      have HRG2 := Lib.hid hrg2
      have HROW5 := Lib.hid (fun w3 w4 (h3 : Below w2.heap.size w2 w3) (h4 : Below w3.heap.size w3 w4) o => own_off (own_off (own_off hr2 (Off.of_below h3) (fun _ _ h => h)) (Off.of_below h4) (fun _ _ h => h)) (Off.of_grown (grown_alloc w4 o none)) (fun _ _ h => by cases h))
      have HG5 := Lib.hid (fun w3 w4 (h3 : Below w2.heap.size w2 w3) (h4 : Below w3.heap.size w3 w4) o => ((grown_below h3 none).trans (grown_below h4 none)).trans (grown_alloc w4 o none))
      have HRG := Lib.hid hrg
      have HDIR := Lib.hid hdir
      have HCL := Lib.hid hcl
      obtain ⟨D1, hD1⟩ : ∃ F, bs (dirL x) = F := ⟨_, rfl⟩
      have HD1 := Lib.hid hD1
      rw [hD1] at HDIR
      obtain ⟨sx, hS⟩ : ∃ b : ByteArray, encStr x = .string b := ⟨bs x, rfl⟩
      have HSE := Lib.hid hS
      rw [hS] at HDIR HCL hen ⊢
      clear hs2 hk hv hat hkey hlk hC hr2 hrg2 hrg hdir hcl hD1 hS ex
      by_cases hdd : dirL x = d
      · have heq : (D1.toList == s.toList) = true := by rw [eqS, Lib.toList_data, ← HD1.out, bs_list, hdd, HDD.out]; simp
        have HF := Lib.hid (filt_yes d ss x hdd)
        clear hdd
        go_wp2_with (first
          | (go_at_call 38; (with_reducible refine HDIR.out.mono ?_); rintro e w3 ⟨rfl, hb3⟩)
          | (go_at_call 39; (with_reducible refine (HCL.out _).mono ?_); rintro e w4 ⟨rfl, hb4⟩)
          | (at_builtin; refine wpList_append_own_at _ rfl _ _ 42 rfl w.heap.size 9 i0 (.string ⟨#[]⟩) 1 16 Tryz.underlying42 hi hz0 hz1 hz2 rfl (by decide) _ _ _ rfl (HROW5.out w3 w4 hb3 hb4 _) ⟨w4.heap.size, 0, none⟩ 1 1 [.string sx] rfl rfl (fun j u hj => by rw [Addr.add_mid, Nat.zero_add, (Blk.new _ _).cell]; simpa using hj) (fun u hu => by simp at hu; rw [hu]; rfl) (by unfold maxLen; omega) (by omega) (by have := hb2.size; have := hb3.size; have := hb4.size; simp; omega) ?_; intro v' w6 hown' hg6 _ hloc))
        have hr5 := HROW5.out w3 w4 hb3 hb4 (.cells #[.string sx] 9)
        have hg5 := HG5.out w3 w4 hb3 hb4 (.cells #[.string sx] 9)
        have hrg6 := (HRG2.out.kept hg5 (by simp) (by simp)).kept hg6 (row_ne_low hr5 hmn) (row_ne_iter hr5 (HRG2.out.kept hg5 (by simp) (by simp)))
        have hb5 : Below w.heap.size w (w4.alloc (.cells #[.string sx] 9)) := hb2.grown hg5 hb2.size (fun j hj => by cases hj)
        go_roundw
        case rel => exact ⟨_, cnt2, ss ++ [x], hrg6, HC.out, by simp; omega, Lib.hid (by rw [HF.out, List.length_append, List.map_append]; show World.ownsRow _ _ _ _ _ ((filt d ss).length + 1) (_ ++ [encStr x]); rw [HSE.out]; exact hown'), hb5.grown hg6 hb5.size (fun j hj => (hr5.lt j hj).1)⟩
        case measure => rw [hrg6.left_eq, HRG.out.left_eq]; exact hlt
      · have heq : (D1.toList == s.toList) = false := by rw [eqS, Lib.toList_data, ← HD1.out, bs_list, HDD.out]; simpa using hdd
        have HF := Lib.hid (filt_no d ss x hdd)
        clear hdd
        go_wp2_with (go_at_call 38; (with_reducible refine HDIR.out.mono ?_); rintro e w3 ⟨rfl, hb3⟩)
        have hg3 := grown_below hb3 none
        go_roundw
        case rel => exact ⟨_, cnt2, ss ++ [x], HRG2.out.kept hg3 (by simp) (by simp), HC.out, by simp; omega, Lib.hid (by rw [HF.out]; exact own_off HROW2.out (Off.of_below hb3) (fun _ _ h => h)), hb2.trans (hb3.mono hb2.size)⟩
        case measure => rw [(HRG2.out.kept hg3 (by simp) (by simp)).left_eq, HRG.out.left_eq]; exact hlt
def newL (w : World) : Lay := ⟨w.heap.size + 1 + 1 + 1 + 1, w.heap.size, w.heap.size + 1, w.heap.size + 1 + 1, w.heap.size + 1 + 1 + 1, fun _ => 0, fun _ => .slice none 0 0, fun _ => .slice none 0 0⟩
def newW (room : Int) (w : World) : World := ((((w.alloc (.map #[] 0)).alloc (.map #[] 0)).alloc (.map #[] 0)).alloc (.map #[] 0)).alloc (.cells (dcells (newL w) (qNew room)) TD)
theorem new_qd (room : Int) (w : World) : QD (newL w) (qNew room) (newW room w) ∧ Below w.heap.size w (newW room w) ∧ ∀ b, foot (newL w) (qNew room) b → w.heap.size ≤ b := by
  obtain ⟨w1, h1⟩ : ∃ x, w.alloc (.map #[] 0) = x := ⟨_, rfl⟩
  obtain ⟨w2, h2⟩ : ∃ x, w1.alloc (.map #[] 0) = x := ⟨_, rfl⟩
  obtain ⟨w3, h3⟩ : ∃ x, w2.alloc (.map #[] 0) = x := ⟨_, rfl⟩
  obtain ⟨w4, h4⟩ : ∃ x, w3.alloc (.map #[] 0) = x := ⟨_, rfl⟩
  obtain ⟨w5, h5⟩ : ∃ x, w4.alloc (.cells (dcells (newL w) (qNew room)) TD) = x := ⟨_, rfl⟩
  have e : newW room w = w5 := by unfold newW; rw [h1, h2, h3, h4, h5]
  have g1 : w.grownBy w1 none := by rw [← h1]; exact grown_alloc _ _ _
  have g2 : w1.grownBy w2 none := by rw [← h2]; exact grown_alloc _ _ _
  have g3 : w2.grownBy w3 none := by rw [← h3]; exact grown_alloc _ _ _
  have g4 : w3.grownBy w4 none := by rw [← h4]; exact grown_alloc _ _ _
  have g5 : w4.grownBy w5 none := by rw [← h5]; exact grown_alloc _ _ _
  have z1 : w1.heap.size = w.heap.size + 1 := by rw [← h1]; simp
  have z2 : w2.heap.size = w.heap.size + 1 + 1 := by rw [← h2, ← z1]; simp
  have z3 : w3.heap.size = w.heap.size + 1 + 1 + 1 := by rw [← h3, ← z2]; simp
  have z4 : w4.heap.size = w.heap.size + 1 + 1 + 1 + 1 := by rw [← h4, ← z3]; simp
  have m1 : MapIs Tryz.prog 9 w.heap.size [] w1 := by rw [← h1]; exact MapIs.made _ _ _
  have m2 : MapIs Tryz.prog 9 (w.heap.size + 1) [] w2 := by rw [← h2, ← z1]; exact MapIs.made _ _ _
  have m3 : MapIs Tryz.prog 9 (w.heap.size + 1 + 1) [] w3 := by rw [← h3, ← z2]; exact MapIs.made _ _ _
  have m4 : MapIs Tryz.prog 3 (w.heap.size + 1 + 1 + 1) [] w4 := by rw [← h4, ← z3]; exact MapIs.made _ _ _
  rw [e]
  refine ⟨⟨?_, ((((m1.kept g2 (by simp)).kept g3 (by simp)).kept g4 (by simp)).kept g5 (by simp)), (((m2.kept g3 (by simp)).kept g4 (by simp)).kept g5 (by simp)), ((m3.kept g4 (by simp)).kept g5 (by simp)), (m4.kept g5 (by simp)), (fun k hk => absurd hk (Nat.not_lt_zero _)), (fun k hk => absurd hk (Nat.not_lt_zero _)), (fun x hx => by cases hx), ?_, ?_, ?_, ?_, ?_, ?_, (fun k j b hk => absurd hk (Nat.not_lt_zero _)), (fun x y b hx => by cases hx)⟩, ?_, ?_⟩
  · have : Blk w4.heap.size (.cells (dcells (newL w) (qNew room)) TD (0, 0)) w5 := by rw [← h5]; exact Blk.new _ _
    rw [z4] at this
    exact this
  · show w.heap.size ≠ w.heap.size + 1; omega
  · show w.heap.size ≠ w.heap.size + 1 + 1; omega
  · show w.heap.size ≠ w.heap.size + 1 + 1 + 1; omega
  · show w.heap.size + 1 ≠ w.heap.size + 1 + 1; omega
  · show w.heap.size + 1 ≠ w.heap.size + 1 + 1 + 1; omega
  · show w.heap.size + 1 + 1 ≠ w.heap.size + 1 + 1 + 1; omega
  · have g := (((g1.trans g2).trans g3).trans g4).trans g5
    exact (Below.refl _ w).grown g (Nat.le_refl _) (fun j hj => by cases hj)
  · intro b hb
    rcases hb with h | h | h | h | h | ⟨k, hk, _⟩ | ⟨x, hx, _⟩
    · have : b = w.heap.size + 1 + 1 + 1 + 1 := h; omega
    · have : b = w.heap.size := h; omega
    · have : b = w.heap.size + 1 := h; omega
    · have : b = w.heap.size + 1 + 1 := h; omega
    · have : b = w.heap.size + 1 + 1 + 1 := h; omega
    · exact absurd hk (Nat.not_lt_zero _)
    · cases hx
set_option maxRecDepth 100000 in
theorem new_any (room : Int) (w : World) : Calls Tryz.prog 7 #[.int .i64 room] w fun e w' => ∃ L, e = .returned (ptr L.d) ∧ QD L (qNew room) w' ∧ Below w.heap.size w w' ∧ ∀ b, foot L (qNew room) b → w.heap.size ≤ b := by
  have hmm := @run_makeMap Tryz.prog
  go_enter Tryz.func7, Tryz.ntmps7
  go_wp2
  go_ret
  exact ⟨newL w, rfl, new_qd room w⟩
end Go.Proofs.YtbodkjifpmencaaGreat
