/-
  The document's Right: which values of JSON may be printed. No conditions.
-/
import Derived.Test.YtchgelfomnbpaaaDoorZ20
import Derived.Test.YtchgelfomnbpaaaDoorZ26
import Derived.Test.YtchgelfomnbpaaaDoorZ25
import Derived.Test.YtchgelfomnbpaaaDoorZ44
import Derived.Test.YtchgelfomnbpaaaDoorZ14
namespace Go.Proofs.YtchgelfomnbpaaaDoor
open Go.RowKit
open Go.Lib

theorem alls_takeQ : ∀ (ns : List Bt) (j : Nat) (h : j < ns.length), (ns.take (j + 1)).all validD = ((ns.take j).all validD && validD ns[j])
  | x :: r, 0, _ => by simp
  | x :: r, j + 1, h => by
    have := alls_takeQ r j (by simpa using h)
    rw [List.take_succ_cons, List.take_succ_cons, List.all_cons, List.all_cons, this]
    simp only [List.getElem_cons_succ, Bool.and_assoc]
theorem alls_someQ {ns : List Bt} {j : Nat} (h : j < ns.length) (hr : validD ns[j] = false) : ns.all validD = false := by
  rw [List.all_eq_false]
  exact ⟨ns[j], List.getElem_mem h, by rw [hr]; decide⟩
/-- What the document's Right answers. -/
def RRightC (N : Nat) : Prop := ∀ (T : Nat → Prop) (v : JV) (x : Value) (d : Nat) (z : Int) (w : World), wJ v ≤ N → JR w T v x → z = (d : Int) → d ≤ 24 → Calls Tryd.prog 17 #[x, .int .i64 z] w fun e w' => e = .returned (.bool (rightJ d v)) ∧ Below w.heap.size w w'
set_option maxRecDepth 100000 in
set_option maxHeartbeats 2000000 in
theorem rright_else {N : Nat} (IH : RRightC N) {T : Nat → Prop} {k : Int} {t : Bt} {ns : List Bt} {l : List JV} {x : Value} {d : Nat} {z : Int} {w : World} (hW : wJ (.mk k t ns l) ≤ N + 1) (hN : N ≤ 99999) (hJ : JR w T (.mk k t ns l) x) (hz : z = (d : Int)) (hd : d ≤ 24) (hk : k < 0 ∨ 6 < k) :
    Calls Tryd.prog 17 #[x, .int .i64 z] w fun e w' => e = .returned (.bool (rightJ d (.mk k t ns l))) ∧ Below w.heap.size w w' := by
  rw [wJ] at hW
  have hnsl := nsW_len ns
  have hwl := wsJ_len l
  rw [JR] at hJ
  obtain ⟨nA, nc, lA, lc, rfl, hTx, hL⟩ := hJ
  have HIH := Lib.hid IH
  have HTX := Lib.hid hTx
  have HL := Lib.hid hL
  have HNS : Hid (∀ j (h : j < ns.length), ns[j].length ≤ 100000) := Lib.hid (fun j h => by have := nsW_at ns j h; omega)
  have HNL : Hid (wsJ l ≤ N ∧ t.length ≤ 100000) := Lib.hid ⟨by omega, by omega⟩
  have HZ := Lib.hid hz
  have HD := Lib.hid hd
  have hn9 : l.length ≤ 1000000 := by omega
  have hnn9 : ns.length ≤ 1000000 := by omega
  have hz0 : 0 ≤ z := by omega
  have hz1 : z ≤ 24 := by omega
  clear hTx hL hW hnsl hwl hN hz hd IH
  obtain ⟨nn, hnn⟩ : ∃ n, ns.length = n := ⟨_, rfl⟩
  obtain ⟨n, hn⟩ : ∃ n, l.length = n := ⟨_, rfl⟩
  rw [hnn, hn]
  rw [hn] at hn9
  rw [hnn] at hnn9
  have HNN := Lib.hid hnn
  have HN := Lib.hid hn
  clear hnn hn
  obtain ⟨S, hS⟩ : ∃ s, bs t = s := ⟨_, rfl⟩
  have HS := Lib.hid hS
  rw [hS]
  clear hS
  obtain ⟨B, hB⟩ : ∃ B, w.heap.size = B := ⟨_, rfl⟩
  obtain ⟨w1, hw1⟩ : ∃ W, w.alloc (.cells #[.int .i64 k, .string S, .slice nA nn nc, .slice lA n lc] TJ) = W := ⟨_, rfl⟩
  have HB1 : Hid (Below w.heap.size w w1) := Lib.hid (by rw [← hw1]; exact (Below.refl _ _).alloc (Nat.le_refl _) _)
  have HX1 : Hid (J4 B (.int .i64 k) (.string S) (.slice nA nn nc) (.slice lA n lc) w1) := Lib.hid (by rw [← hw1, ← hB]; exact Blk.new _ w)
  have e0 := HX1.out.c0
  have e1 := HX1.out.c1
  have e2 := HX1.out.c2
  have e3 := HX1.out.c3
  have HE : Hid (rightJ d (.mk k t ns l) = false) := Lib.hid (right_else hk)
  by_cases hk0 : k < 0
  · have hk6 : ¬ 6 < k := by omega
    clear hk
    go_enter Tryd.func17, Tryd.ntmps17
    go_wp2
    go_ret
    exact ⟨by rw [HE.out]; rfl, by rw [← hB]; exact HB1.out⟩
  · have hk6 : 6 < k := by omega
    clear hk
    go_enter Tryd.func17, Tryd.ntmps17
    go_wp2
    go_ret
    exact ⟨by rw [HE.out]; rfl, by rw [← hB]; exact HB1.out⟩
set_option maxRecDepth 100000 in
set_option maxHeartbeats 2000000 in
theorem rright0 {N : Nat} (IH : RRightC N) {T : Nat → Prop} {t : Bt} {ns : List Bt} {l : List JV} {x : Value} {d : Nat} {z : Int} {w : World} (hW : wJ (.mk 0 t ns l) ≤ N + 1) (hN : N ≤ 99999) (hJ : JR w T (.mk 0 t ns l) x) (hz : z = (d : Int)) (hd : d ≤ 24) :
    Calls Tryd.prog 17 #[x, .int .i64 z] w fun e w' => e = .returned (.bool (rightJ d (.mk 0 t ns l))) ∧ Below w.heap.size w w' := by
  rw [wJ] at hW
  have hnsl := nsW_len ns
  have hwl := wsJ_len l
  rw [JR] at hJ
  obtain ⟨nA, nc, lA, lc, rfl, hTx, hL⟩ := hJ
  have HIH := Lib.hid IH
  have HTX := Lib.hid hTx
  have HL := Lib.hid hL
  have HNS : Hid (∀ j (h : j < ns.length), ns[j].length ≤ 100000) := Lib.hid (fun j h => by have := nsW_at ns j h; omega)
  have HNL : Hid (wsJ l ≤ N ∧ t.length ≤ 100000) := Lib.hid ⟨by omega, by omega⟩
  have HZ := Lib.hid hz
  have HD := Lib.hid hd
  have hn9 : l.length ≤ 1000000 := by omega
  have hnn9 : ns.length ≤ 1000000 := by omega
  have hz0 : 0 ≤ z := by omega
  have hz1 : z ≤ 24 := by omega
  clear hTx hL hW hnsl hwl hN hz hd IH
  obtain ⟨nn, hnn⟩ : ∃ n, ns.length = n := ⟨_, rfl⟩
  obtain ⟨n, hn⟩ : ∃ n, l.length = n := ⟨_, rfl⟩
  rw [hnn, hn]
  rw [hn] at hn9
  rw [hnn] at hnn9
  have HNN := Lib.hid hnn
  have HN := Lib.hid hn
  clear hnn hn
  obtain ⟨S, hS⟩ : ∃ s, bs t = s := ⟨_, rfl⟩
  have HS := Lib.hid hS
  rw [hS]
  clear hS
  obtain ⟨B, hB⟩ : ∃ B, w.heap.size = B := ⟨_, rfl⟩
  obtain ⟨w1, hw1⟩ : ∃ W, w.alloc (.cells #[.int .i64 0, .string S, .slice nA nn nc, .slice lA n lc] TJ) = W := ⟨_, rfl⟩
  have HB1 : Hid (Below w.heap.size w w1) := Lib.hid (by rw [← hw1]; exact (Below.refl _ _).alloc (Nat.le_refl _) _)
  have HX1 : Hid (J4 B (.int .i64 0) (.string S) (.slice nA nn nc) (.slice lA n lc) w1) := Lib.hid (by rw [← hw1, ← hB]; exact Blk.new _ w)
  have e0 := HX1.out.c0
  have e1 := HX1.out.c1
  have e2 := HX1.out.c2
  have e3 := HX1.out.c3
  have HE : Hid (rightJ d (.mk 0 t ns l) = (decide (t = []) && singleB ns l)) := Lib.hid (by rw [right_low (by decide) (by decide)]; rfl)
  by_cases hn0 : 0 < n
  · have hni : (0 : Int) < (n : Int) := by omega
    have HE2 : Hid (rightJ d (.mk 0 t ns l) = false) := Lib.hid (by
      have : singleB ns l = false := by unfold singleB; rw [HN.out, decide_eq_false (by omega : ¬ n = 0), Bool.and_false]
      rw [HE.out, this, Bool.and_false])
    go_enter Tryd.func17, Tryd.ntmps17
    go_wp2
    go_ret
    exact ⟨by rw [HE2.out]; rfl, HB1.out⟩
  · obtain rfl : n = 0 := by omega
    by_cases hnn0 : 0 < nn
    · have hnni : (0 : Int) < (nn : Int) := by omega
      have HE2 : Hid (rightJ d (.mk 0 t ns l) = false) := Lib.hid (by
        have : singleB ns l = false := by unfold singleB; rw [HNN.out, decide_eq_false (by omega : ¬ nn = 0), Bool.false_and]
        rw [HE.out, this, Bool.and_false])
      go_enter Tryd.func17, Tryd.ntmps17
      go_wp2
      go_ret
      exact ⟨by rw [HE2.out]; rfl, HB1.out⟩
    · obtain rfl : nn = 0 := by omega
      have HE3 : Hid (rightJ d (.mk 0 t ns l) = decide (t = [])) := Lib.hid (by
        have : singleB ns l = true := by unfold singleB; rw [HNN.out, HN.out]; rfl
        rw [HE.out, this, Bool.and_true])
      clear hn0 hnn0 HE
      by_cases ht : t = []
      · have HE4 : Hid (rightJ d (.mk 0 t ns l) = true) := Lib.hid (by rw [HE3.out, decide_eq_true ht])
        have hne : S.toList = [] := by rw [← HS.out, Lib.toList_data, bs_list, ht]
        clear ht HE3
        go_enter Tryd.func17, Tryd.ntmps17
        go_wp2
        go_loopw [84] (fun i wr => i = .int .i64 0 ∧ wr = w1) (fun _ _ => 0)
        case atStart => exact ⟨rfl, rfl⟩
        case round =>
          obtain ⟨rfl, rfl⟩ := hrel
          go_wp2
          go_ret
          exact ⟨by rw [HE4.out]; rfl, HB1.out⟩
      · have HE4 : Hid (rightJ d (.mk 0 t ns l) = false) := Lib.hid (by rw [HE3.out, decide_eq_false ht])
        have hne : ¬ S.toList = [] := by rw [← HS.out, Lib.toList_data, bs_list]; exact ht
        have hne2 : S.toList.isEmpty = false := by
          cases hq : S.toList with
          | nil => exact absurd hq hne
          | cons a b => rfl
        clear ht HE3
        go_enter Tryd.func17, Tryd.ntmps17
        go_wp2
        go_ret
        exact ⟨by rw [HE4.out]; rfl, HB1.out⟩
set_option maxRecDepth 100000 in
set_option maxHeartbeats 2000000 in
theorem rright1 {N : Nat} (IH : RRightC N) {T : Nat → Prop} {t : Bt} {ns : List Bt} {l : List JV} {x : Value} {d : Nat} {z : Int} {w : World} (hW : wJ (.mk 1 t ns l) ≤ N + 1) (hN : N ≤ 99999) (hJ : JR w T (.mk 1 t ns l) x) (hz : z = (d : Int)) (hd : d ≤ 24) :
    Calls Tryd.prog 17 #[x, .int .i64 z] w fun e w' => e = .returned (.bool (rightJ d (.mk 1 t ns l))) ∧ Below w.heap.size w w' := by
  rw [wJ] at hW
  have hnsl := nsW_len ns
  have hwl := wsJ_len l
  rw [JR] at hJ
  obtain ⟨nA, nc, lA, lc, rfl, hTx, hL⟩ := hJ
  have HIH := Lib.hid IH
  have HTX := Lib.hid hTx
  have HL := Lib.hid hL
  have HNS : Hid (∀ j (h : j < ns.length), ns[j].length ≤ 100000) := Lib.hid (fun j h => by have := nsW_at ns j h; omega)
  have HNL : Hid (wsJ l ≤ N ∧ t.length ≤ 100000) := Lib.hid ⟨by omega, by omega⟩
  have HZ := Lib.hid hz
  have HD := Lib.hid hd
  have hn9 : l.length ≤ 1000000 := by omega
  have hnn9 : ns.length ≤ 1000000 := by omega
  have hz0 : 0 ≤ z := by omega
  have hz1 : z ≤ 24 := by omega
  clear hTx hL hW hnsl hwl hN hz hd IH
  obtain ⟨nn, hnn⟩ : ∃ n, ns.length = n := ⟨_, rfl⟩
  obtain ⟨n, hn⟩ : ∃ n, l.length = n := ⟨_, rfl⟩
  rw [hnn, hn]
  rw [hn] at hn9
  rw [hnn] at hnn9
  have HNN := Lib.hid hnn
  have HN := Lib.hid hn
  clear hnn hn
  obtain ⟨S, hS⟩ : ∃ s, bs t = s := ⟨_, rfl⟩
  have HS := Lib.hid hS
  rw [hS]
  clear hS
  obtain ⟨B, hB⟩ : ∃ B, w.heap.size = B := ⟨_, rfl⟩
  obtain ⟨w1, hw1⟩ : ∃ W, w.alloc (.cells #[.int .i64 1, .string S, .slice nA nn nc, .slice lA n lc] TJ) = W := ⟨_, rfl⟩
  have HB1 : Hid (Below w.heap.size w w1) := Lib.hid (by rw [← hw1]; exact (Below.refl _ _).alloc (Nat.le_refl _) _)
  have HX1 : Hid (J4 B (.int .i64 1) (.string S) (.slice nA nn nc) (.slice lA n lc) w1) := Lib.hid (by rw [← hw1, ← hB]; exact Blk.new _ w)
  have e0 := HX1.out.c0
  have e1 := HX1.out.c1
  have e2 := HX1.out.c2
  have e3 := HX1.out.c3
  have HE : Hid (rightJ d (.mk 1 t ns l) = (decide (t = []) && singleB ns l)) := Lib.hid (by rw [right_low (by decide) (by decide)]; rfl)
  by_cases hn0 : 0 < n
  · have hni : (0 : Int) < (n : Int) := by omega
    have HE2 : Hid (rightJ d (.mk 1 t ns l) = false) := Lib.hid (by
      have : singleB ns l = false := by unfold singleB; rw [HN.out, decide_eq_false (by omega : ¬ n = 0), Bool.and_false]
      rw [HE.out, this, Bool.and_false])
    go_enter Tryd.func17, Tryd.ntmps17
    go_wp2
    go_ret
    exact ⟨by rw [HE2.out]; rfl, HB1.out⟩
  · obtain rfl : n = 0 := by omega
    by_cases hnn0 : 0 < nn
    · have hnni : (0 : Int) < (nn : Int) := by omega
      have HE2 : Hid (rightJ d (.mk 1 t ns l) = false) := Lib.hid (by
        have : singleB ns l = false := by unfold singleB; rw [HNN.out, decide_eq_false (by omega : ¬ nn = 0), Bool.false_and]
        rw [HE.out, this, Bool.and_false])
      go_enter Tryd.func17, Tryd.ntmps17
      go_wp2
      go_ret
      exact ⟨by rw [HE2.out]; rfl, HB1.out⟩
    · obtain rfl : nn = 0 := by omega
      have HE3 : Hid (rightJ d (.mk 1 t ns l) = decide (t = [])) := Lib.hid (by
        have : singleB ns l = true := by unfold singleB; rw [HNN.out, HN.out]; rfl
        rw [HE.out, this, Bool.and_true])
      clear hn0 hnn0 HE
      by_cases ht : t = []
      · have HE4 : Hid (rightJ d (.mk 1 t ns l) = true) := Lib.hid (by rw [HE3.out, decide_eq_true ht])
        have hne : S.toList = [] := by rw [← HS.out, Lib.toList_data, bs_list, ht]
        clear ht HE3
        go_enter Tryd.func17, Tryd.ntmps17
        go_wp2
        go_loopw [84] (fun i wr => i = .int .i64 0 ∧ wr = w1) (fun _ _ => 0)
        case atStart => exact ⟨rfl, rfl⟩
        case round =>
          obtain ⟨rfl, rfl⟩ := hrel
          go_wp2
          go_ret
          exact ⟨by rw [HE4.out]; rfl, HB1.out⟩
      · have HE4 : Hid (rightJ d (.mk 1 t ns l) = false) := Lib.hid (by rw [HE3.out, decide_eq_false ht])
        have hne : ¬ S.toList = [] := by rw [← HS.out, Lib.toList_data, bs_list]; exact ht
        have hne2 : S.toList.isEmpty = false := by
          cases hq : S.toList with
          | nil => exact absurd hq hne
          | cons a b => rfl
        clear ht HE3
        go_enter Tryd.func17, Tryd.ntmps17
        go_wp2
        go_ret
        exact ⟨by rw [HE4.out]; rfl, HB1.out⟩
set_option maxRecDepth 100000 in
set_option maxHeartbeats 2000000 in
theorem rright2 {N : Nat} (IH : RRightC N) {T : Nat → Prop} {t : Bt} {ns : List Bt} {l : List JV} {x : Value} {d : Nat} {z : Int} {w : World} (hW : wJ (.mk 2 t ns l) ≤ N + 1) (hN : N ≤ 99999) (hJ : JR w T (.mk 2 t ns l) x) (hz : z = (d : Int)) (hd : d ≤ 24) :
    Calls Tryd.prog 17 #[x, .int .i64 z] w fun e w' => e = .returned (.bool (rightJ d (.mk 2 t ns l))) ∧ Below w.heap.size w w' := by
  rw [wJ] at hW
  have hnsl := nsW_len ns
  have hwl := wsJ_len l
  rw [JR] at hJ
  obtain ⟨nA, nc, lA, lc, rfl, hTx, hL⟩ := hJ
  have HIH := Lib.hid IH
  have HTX := Lib.hid hTx
  have HL := Lib.hid hL
  have HNS : Hid (∀ j (h : j < ns.length), ns[j].length ≤ 100000) := Lib.hid (fun j h => by have := nsW_at ns j h; omega)
  have HNL : Hid (wsJ l ≤ N ∧ t.length ≤ 100000) := Lib.hid ⟨by omega, by omega⟩
  have HZ := Lib.hid hz
  have HD := Lib.hid hd
  have hn9 : l.length ≤ 1000000 := by omega
  have hnn9 : ns.length ≤ 1000000 := by omega
  have hz0 : 0 ≤ z := by omega
  have hz1 : z ≤ 24 := by omega
  clear hTx hL hW hnsl hwl hN hz hd IH
  obtain ⟨nn, hnn⟩ : ∃ n, ns.length = n := ⟨_, rfl⟩
  obtain ⟨n, hn⟩ : ∃ n, l.length = n := ⟨_, rfl⟩
  rw [hnn, hn]
  rw [hn] at hn9
  rw [hnn] at hnn9
  have HNN := Lib.hid hnn
  have HN := Lib.hid hn
  clear hnn hn
  obtain ⟨S, hS⟩ : ∃ s, bs t = s := ⟨_, rfl⟩
  have HS := Lib.hid hS
  rw [hS]
  clear hS
  obtain ⟨B, hB⟩ : ∃ B, w.heap.size = B := ⟨_, rfl⟩
  obtain ⟨w1, hw1⟩ : ∃ W, w.alloc (.cells #[.int .i64 2, .string S, .slice nA nn nc, .slice lA n lc] TJ) = W := ⟨_, rfl⟩
  have HB1 : Hid (Below w.heap.size w w1) := Lib.hid (by rw [← hw1]; exact (Below.refl _ _).alloc (Nat.le_refl _) _)
  have HX1 : Hid (J4 B (.int .i64 2) (.string S) (.slice nA nn nc) (.slice lA n lc) w1) := Lib.hid (by rw [← hw1, ← hB]; exact Blk.new _ w)
  have e0 := HX1.out.c0
  have e1 := HX1.out.c1
  have e2 := HX1.out.c2
  have e3 := HX1.out.c3
  have HE : Hid (rightJ d (.mk 2 t ns l) = (decide (t = []) && singleB ns l)) := Lib.hid (by rw [right_low (by decide) (by decide)]; rfl)
  by_cases hn0 : 0 < n
  · have hni : (0 : Int) < (n : Int) := by omega
    have HE2 : Hid (rightJ d (.mk 2 t ns l) = false) := Lib.hid (by
      have : singleB ns l = false := by unfold singleB; rw [HN.out, decide_eq_false (by omega : ¬ n = 0), Bool.and_false]
      rw [HE.out, this, Bool.and_false])
    go_enter Tryd.func17, Tryd.ntmps17
    go_wp2
    go_ret
    exact ⟨by rw [HE2.out]; rfl, HB1.out⟩
  · obtain rfl : n = 0 := by omega
    by_cases hnn0 : 0 < nn
    · have hnni : (0 : Int) < (nn : Int) := by omega
      have HE2 : Hid (rightJ d (.mk 2 t ns l) = false) := Lib.hid (by
        have : singleB ns l = false := by unfold singleB; rw [HNN.out, decide_eq_false (by omega : ¬ nn = 0), Bool.false_and]
        rw [HE.out, this, Bool.and_false])
      go_enter Tryd.func17, Tryd.ntmps17
      go_wp2
      go_ret
      exact ⟨by rw [HE2.out]; rfl, HB1.out⟩
    · obtain rfl : nn = 0 := by omega
      have HE3 : Hid (rightJ d (.mk 2 t ns l) = decide (t = [])) := Lib.hid (by
        have : singleB ns l = true := by unfold singleB; rw [HNN.out, HN.out]; rfl
        rw [HE.out, this, Bool.and_true])
      clear hn0 hnn0 HE
      by_cases ht : t = []
      · have HE4 : Hid (rightJ d (.mk 2 t ns l) = true) := Lib.hid (by rw [HE3.out, decide_eq_true ht])
        have hne : S.toList = [] := by rw [← HS.out, Lib.toList_data, bs_list, ht]
        clear ht HE3
        go_enter Tryd.func17, Tryd.ntmps17
        go_wp2
        go_loopw [84] (fun i wr => i = .int .i64 0 ∧ wr = w1) (fun _ _ => 0)
        case atStart => exact ⟨rfl, rfl⟩
        case round =>
          obtain ⟨rfl, rfl⟩ := hrel
          go_wp2
          go_ret
          exact ⟨by rw [HE4.out]; rfl, HB1.out⟩
      · have HE4 : Hid (rightJ d (.mk 2 t ns l) = false) := Lib.hid (by rw [HE3.out, decide_eq_false ht])
        have hne : ¬ S.toList = [] := by rw [← HS.out, Lib.toList_data, bs_list]; exact ht
        have hne2 : S.toList.isEmpty = false := by
          cases hq : S.toList with
          | nil => exact absurd hq hne
          | cons a b => rfl
        clear ht HE3
        go_enter Tryd.func17, Tryd.ntmps17
        go_wp2
        go_ret
        exact ⟨by rw [HE4.out]; rfl, HB1.out⟩
set_option maxRecDepth 100000 in
set_option maxHeartbeats 2000000 in
theorem rright4 {N : Nat} (IH : RRightC N) {T : Nat → Prop} {t : Bt} {ns : List Bt} {l : List JV} {x : Value} {d : Nat} {z : Int} {w : World} (hW : wJ (.mk 4 t ns l) ≤ N + 1) (hN : N ≤ 99999) (hJ : JR w T (.mk 4 t ns l) x) (hz : z = (d : Int)) (hd : d ≤ 24) :
    Calls Tryd.prog 17 #[x, .int .i64 z] w fun e w' => e = .returned (.bool (rightJ d (.mk 4 t ns l))) ∧ Below w.heap.size w w' := by
  rw [wJ] at hW
  have hnsl := nsW_len ns
  have hwl := wsJ_len l
  rw [JR] at hJ
  obtain ⟨nA, nc, lA, lc, rfl, hTx, hL⟩ := hJ
  have HIH := Lib.hid IH
  have HTX := Lib.hid hTx
  have HL := Lib.hid hL
  have HNS : Hid (∀ j (h : j < ns.length), ns[j].length ≤ 100000) := Lib.hid (fun j h => by have := nsW_at ns j h; omega)
  have HNL : Hid (wsJ l ≤ N ∧ t.length ≤ 100000) := Lib.hid ⟨by omega, by omega⟩
  have HZ := Lib.hid hz
  have HD := Lib.hid hd
  have hn9 : l.length ≤ 1000000 := by omega
  have hnn9 : ns.length ≤ 1000000 := by omega
  have hz0 : 0 ≤ z := by omega
  have hz1 : z ≤ 24 := by omega
  clear hTx hL hW hnsl hwl hN hz hd IH
  obtain ⟨nn, hnn⟩ : ∃ n, ns.length = n := ⟨_, rfl⟩
  obtain ⟨n, hn⟩ : ∃ n, l.length = n := ⟨_, rfl⟩
  rw [hnn, hn]
  rw [hn] at hn9
  rw [hnn] at hnn9
  have HNN := Lib.hid hnn
  have HN := Lib.hid hn
  clear hnn hn
  obtain ⟨S, hS⟩ : ∃ s, bs t = s := ⟨_, rfl⟩
  have HS := Lib.hid hS
  rw [hS]
  clear hS
  obtain ⟨B, hB⟩ : ∃ B, w.heap.size = B := ⟨_, rfl⟩
  obtain ⟨w1, hw1⟩ : ∃ W, w.alloc (.cells #[.int .i64 4, .string S, .slice nA nn nc, .slice lA n lc] TJ) = W := ⟨_, rfl⟩
  have HB1 : Hid (Below w.heap.size w w1) := Lib.hid (by rw [← hw1]; exact (Below.refl _ _).alloc (Nat.le_refl _) _)
  have HX1 : Hid (J4 B (.int .i64 4) (.string S) (.slice nA nn nc) (.slice lA n lc) w1) := Lib.hid (by rw [← hw1, ← hB]; exact Blk.new _ w)
  have e0 := HX1.out.c0
  have e1 := HX1.out.c1
  have e2 := HX1.out.c2
  have e3 := HX1.out.c3
  have HE : Hid (rightJ d (.mk 4 t ns l) = (validD t && singleB ns l)) := Lib.hid (by rw [right_low (by decide) (by decide)]; rfl)
  by_cases hn0 : 0 < n
  · have hni : (0 : Int) < (n : Int) := by omega
    have HE2 : Hid (rightJ d (.mk 4 t ns l) = false) := Lib.hid (by
      have : singleB ns l = false := by unfold singleB; rw [HN.out, decide_eq_false (by omega : ¬ n = 0), Bool.and_false]
      rw [HE.out, this, Bool.and_false])
    go_enter Tryd.func17, Tryd.ntmps17
    go_wp2
    go_ret
    exact ⟨by rw [HE2.out]; rfl, HB1.out⟩
  · obtain rfl : n = 0 := by omega
    by_cases hnn0 : 0 < nn
    · have hnni : (0 : Int) < (nn : Int) := by omega
      have HE2 : Hid (rightJ d (.mk 4 t ns l) = false) := Lib.hid (by
        have : singleB ns l = false := by unfold singleB; rw [HNN.out, decide_eq_false (by omega : ¬ nn = 0), Bool.false_and]
        rw [HE.out, this, Bool.and_false])
      go_enter Tryd.func17, Tryd.ntmps17
      go_wp2
      go_ret
      exact ⟨by rw [HE2.out]; rfl, HB1.out⟩
    · obtain rfl : nn = 0 := by omega
      have HE3 : Hid (rightJ d (.mk 4 t ns l) = validD t) := Lib.hid (by
        have : singleB ns l = true := by unfold singleB; rw [HNN.out, HN.out]; rfl
        rw [HE.out, this, Bool.and_true])
      clear hn0 hnn0 HE
      have hsz : S.size ≤ 2000000 := by rw [← HS.out, bs_size]; have := HNL.out.2; omega
      have HV := Lib.hid (rvalid_any S w1 hsz)
      have HE4 : Hid (validD S.data.toList = validD t) := Lib.hid (by rw [← HS.out, bs_list])
      rw [HE4.out] at HV
      obtain ⟨q, hq⟩ : ∃ q, validD t = q := ⟨_, rfl⟩
      rw [hq] at HE3 HV
      clear hq HE4
      go_enter Tryd.func17, Tryd.ntmps17
      go_wp2_with (go_at_call 29; (with_reducible refine HV.out.mono ?_); rintro e w2 ⟨rfl, b2⟩; have HB2 := Lib.hid (HB1.out.trans (b2.mono HB1.out.size)); clear b2)
      go_ret
      exact ⟨by rw [HE3.out]; rfl, HB2.out⟩
set_option maxRecDepth 100000 in
set_option maxHeartbeats 2000000 in
theorem rright3 {N : Nat} (IH : RRightC N) {T : Nat → Prop} {t : Bt} {ns : List Bt} {l : List JV} {x : Value} {d : Nat} {z : Int} {w : World} (hW : wJ (.mk 3 t ns l) ≤ N + 1) (hN : N ≤ 99999) (hJ : JR w T (.mk 3 t ns l) x) (hz : z = (d : Int)) (hd : d ≤ 24) :
    Calls Tryd.prog 17 #[x, .int .i64 z] w fun e w' => e = .returned (.bool (rightJ d (.mk 3 t ns l))) ∧ Below w.heap.size w w' := by
  rw [wJ] at hW
  have hnsl := nsW_len ns
  have hwl := wsJ_len l
  rw [JR] at hJ
  obtain ⟨nA, nc, lA, lc, rfl, hTx, hL⟩ := hJ
  have HIH := Lib.hid IH
  have HTX := Lib.hid hTx
  have HL := Lib.hid hL
  have HNS : Hid (∀ j (h : j < ns.length), ns[j].length ≤ 100000) := Lib.hid (fun j h => by have := nsW_at ns j h; omega)
  have HNL : Hid (wsJ l ≤ N ∧ t.length ≤ 100000) := Lib.hid ⟨by omega, by omega⟩
  have HZ := Lib.hid hz
  have HD := Lib.hid hd
  have hn9 : l.length ≤ 1000000 := by omega
  have hnn9 : ns.length ≤ 1000000 := by omega
  have hz0 : 0 ≤ z := by omega
  have hz1 : z ≤ 24 := by omega
  clear hTx hL hW hnsl hwl hN hz hd IH
  obtain ⟨nn, hnn⟩ : ∃ n, ns.length = n := ⟨_, rfl⟩
  obtain ⟨n, hn⟩ : ∃ n, l.length = n := ⟨_, rfl⟩
  rw [hnn, hn]
  rw [hn] at hn9
  rw [hnn] at hnn9
  have HNN := Lib.hid hnn
  have HN := Lib.hid hn
  clear hnn hn
  obtain ⟨S, hS⟩ : ∃ s, bs t = s := ⟨_, rfl⟩
  have HS := Lib.hid hS
  rw [hS]
  clear hS
  obtain ⟨B, hB⟩ : ∃ B, w.heap.size = B := ⟨_, rfl⟩
  obtain ⟨w1, hw1⟩ : ∃ W, w.alloc (.cells #[.int .i64 3, .string S, .slice nA nn nc, .slice lA n lc] TJ) = W := ⟨_, rfl⟩
  have HB1 : Hid (Below w.heap.size w w1) := Lib.hid (by rw [← hw1]; exact (Below.refl _ _).alloc (Nat.le_refl _) _)
  have HX1 : Hid (J4 B (.int .i64 3) (.string S) (.slice nA nn nc) (.slice lA n lc) w1) := Lib.hid (by rw [← hw1, ← hB]; exact Blk.new _ w)
  have e0 := HX1.out.c0
  have e1 := HX1.out.c1
  have e2 := HX1.out.c2
  have e3 := HX1.out.c3
  have HE : Hid (rightJ d (.mk 3 t ns l) = (decide (t ≠ [] ∧ numLen t = t.length) && singleB ns l)) := Lib.hid (by rw [right_low (by decide) (by decide)]; rfl)
  by_cases hn0 : 0 < n
  · have hni : (0 : Int) < (n : Int) := by omega
    have HE2 : Hid (rightJ d (.mk 3 t ns l) = false) := Lib.hid (by
      have : singleB ns l = false := by unfold singleB; rw [HN.out, decide_eq_false (by omega : ¬ n = 0), Bool.and_false]
      rw [HE.out, this, Bool.and_false])
    go_enter Tryd.func17, Tryd.ntmps17
    go_wp2
    go_ret
    exact ⟨by rw [HE2.out]; rfl, HB1.out⟩
  · obtain rfl : n = 0 := by omega
    by_cases hnn0 : 0 < nn
    · have hnni : (0 : Int) < (nn : Int) := by omega
      have HE2 : Hid (rightJ d (.mk 3 t ns l) = false) := Lib.hid (by
        have : singleB ns l = false := by unfold singleB; rw [HNN.out, decide_eq_false (by omega : ¬ nn = 0), Bool.false_and]
        rw [HE.out, this, Bool.and_false])
      go_enter Tryd.func17, Tryd.ntmps17
      go_wp2
      go_ret
      exact ⟨by rw [HE2.out]; rfl, HB1.out⟩
    · obtain rfl : nn = 0 := by omega
      have HE3 : Hid (rightJ d (.mk 3 t ns l) = decide (t ≠ [] ∧ numLen t = t.length)) := Lib.hid (by
        have : singleB ns l = true := by unfold singleB; rw [HNN.out, HN.out]; rfl
        rw [HE.out, this, Bool.and_true])
      clear hn0 hnn0 HE
      have HA : Hid (∀ W, Kept7 w1 W → (Kept7 w1 W ∧ W.cell? ⟨B, 1, none⟩ = some (.string S))) := Lib.hid (fun W h => ⟨h, (HX1.out.below h).c1⟩)
      have hk : Kept7 w1 w1 := Below.refl _ _
      by_cases ht : t = []
      · have HE4 : Hid (rightJ d (.mk 3 t ns l) = false) := Lib.hid (by rw [HE3.out, decide_eq_false (fun h => h.1 ht)])
        have hne : S.toList = [] := by rw [← HS.out, Lib.toList_data, bs_list, ht]
        clear ht HE3
        go_enter Tryd.func17, Tryd.ntmps17
        go_upto_region 6 with (fail)
        refine wp_region_held_drew (S := (fun W => Kept7 w1 W ∧ W.cell? ⟨B, 1, none⟩ = some (.string S))) (by kernel_rfl) (HA.out _ (Kept7.drew hk)) (fun hHeld => ?_)
        refine wpAnyH_take (i := 0) (v := .pointer (some ⟨B, 1, none⟩)) rfl (by kernel_rfl) (by kernel_rfl) (by kernel_rfl) (fun _ _ _ h => h) (Or.inl ⟨by rfl, by intro w hSw; (try dsimp only at hSw); go_simp⟩) hHeld ?_
        change wpAnyH _ _ _ _ _ _ _ (Act.put _ (some 51) _) _
        try simp only [Act.put, List.setIfInBounds_toArray, List.set_cons_zero, List.set_cons_succ]
        refine wpAnyH_take (i := 1) (v := .string S) rfl (by kernel_rfl) (by kernel_rfl) (by kernel_rfl) (fun _ _ _ h => h) (Or.inl ⟨by rfl, by intro w hSw; (try dsimp only at hSw); go_simp⟩) hHeld ?_
        change wpAnyH _ _ _ _ _ _ _ (Act.put _ (some 52) _) _
        try simp only [Act.put, List.setIfInBounds_toArray, List.set_cons_zero, List.set_cons_succ]
        refine wpAnyH_take (i := 2) (v := .bool false) rfl (by kernel_rfl) (by kernel_rfl) (by kernel_rfl) (fun _ _ _ h => h) (Or.inl ⟨by rfl, by intro w hSw; (try dsimp only at hSw); go_simp⟩) hHeld ?_
        change wpAnyH _ _ _ _ _ _ _ (Act.put _ (some 53) _) _
        try simp only [Act.put, List.setIfInBounds_toArray, List.set_cons_zero, List.set_cons_succ]
        refine wpAnyH_take (i := 3) (v := .bool false) rfl (by kernel_rfl) (by kernel_rfl) (by kernel_rfl) (fun _ _ _ h => h) (Or.inl ⟨by rfl, by intro w hSw; (try dsimp only at hSw); go_simp⟩) hHeld ?_
        change wpAnyH _ _ _ _ _ _ _ (Act.put _ (some 54) _) _
        try simp only [Act.put, List.setIfInBounds_toArray, List.set_cons_zero, List.set_cons_succ]
        refine wpAnyH_take (i := 4) (v := undef) rfl (by kernel_rfl) (by kernel_rfl) (by kernel_rfl) (fun _ _ _ h => h) (Or.inr ⟨by rfl, rfl⟩) hHeld ?_
        change wpAnyH _ _ _ _ _ _ _ (Act.put _ (some 55) _) _
        try simp only [Act.put, List.setIfInBounds_toArray, List.set_cons_zero, List.set_cons_succ]
        refine wpAnyH_take (i := 5) (v := undef) rfl (by kernel_rfl) (by kernel_rfl) (by kernel_rfl) (fun _ _ _ h => h) (Or.inr ⟨by rfl, rfl⟩) hHeld ?_
        change wpAnyH _ _ _ _ _ _ _ (Act.put _ (some 56) _) _
        try simp only [Act.put, List.setIfInBounds_toArray, List.set_cons_zero, List.set_cons_succ]
        refine wpAnyH_take (i := 6) (v := undef) rfl (by kernel_rfl) (by kernel_rfl) (by kernel_rfl) (fun _ _ _ h => h) (Or.inr ⟨by rfl, rfl⟩) hHeld ?_
        change wpAnyH _ _ _ _ _ _ _ (Act.put _ (some 57) _) _
        try simp only [Act.put, List.setIfInBounds_toArray, List.set_cons_zero, List.set_cons_succ]
        refine wpAnyH_take (i := 7) (v := undef) rfl (by kernel_rfl) (by kernel_rfl) (by kernel_rfl) (fun _ _ _ h => h) (Or.inr ⟨by rfl, rfl⟩) hHeld ?_
        change wpAnyH _ _ _ _ _ _ _ (Act.put _ (some 58) _) _
        try simp only [Act.put, List.setIfInBounds_toArray, List.set_cons_zero, List.set_cons_succ]
        refine wpAnyH_take (i := 8) (v := undef) rfl (by kernel_rfl) (by kernel_rfl) (by kernel_rfl) (fun _ _ _ h => h) (Or.inr ⟨by rfl, rfl⟩) hHeld ?_
        change wpAnyH _ _ _ _ _ _ _ (Act.put _ (some 59) _) _
        try simp only [Act.put, List.setIfInBounds_toArray, List.set_cons_zero, List.set_cons_succ]
        refine wpAnyH_take (i := 9) (v := undef) rfl (by kernel_rfl) (by kernel_rfl) (by kernel_rfl) (fun _ _ _ h => h) (Or.inr ⟨by rfl, rfl⟩) hHeld ?_
        change wpAnyH _ _ _ _ _ _ _ (Act.put _ (some 60) _) _
        try simp only [Act.put, List.setIfInBounds_toArray, List.set_cons_zero, List.set_cons_succ]
        refine wpAnyH_take (i := 10) (v := undef) rfl (by kernel_rfl) (by kernel_rfl) (by kernel_rfl) (fun _ _ _ h => h) (Or.inr ⟨by rfl, rfl⟩) hHeld ?_
        change wpAnyH _ _ _ _ _ _ _ (Act.put _ (some 61) _) _
        try simp only [Act.put, List.setIfInBounds_toArray, List.set_cons_zero, List.set_cons_succ]
        refine wpAnyH_take (i := 11) (v := .bool false) rfl (by kernel_rfl) (by kernel_rfl) (by kernel_rfl) (fun _ _ _ h => h) (Or.inl ⟨by rfl, by intro w hSw; (try dsimp only at hSw); go_simp⟩) hHeld ?_
        change wpAnyH _ _ _ _ _ _ _ (Act.put _ (some 62) _) _
        try simp only [Act.put, List.setIfInBounds_toArray, List.set_cons_zero, List.set_cons_succ]
        refine wpAnyH_take (i := 12) (v := .bool false) rfl (by kernel_rfl) (by kernel_rfl) (by kernel_rfl) (fun _ _ _ h => h) (Or.inl ⟨by rfl, by intro w hSw; (try dsimp only at hSw); go_simp⟩) hHeld ?_
        change wpAnyH _ _ _ _ _ _ _ (Act.put _ (some 4) _) _
        try simp only [Act.put, List.setIfInBounds_toArray, List.set_cons_zero, List.set_cons_succ]
        refine wpAnyH_done (by kernel_rfl) ?_ _
        go_wp2
        go_ret
        exact ⟨by rw [HE4.out]; rfl, HB1.out.trans (Below.mono (And.left hHeld) HB1.out.size)⟩
      · obtain ⟨q, hq⟩ : ∃ q, (((numLen t : Nat) : Int) == (S.size : Int)) = q := ⟨_, rfl⟩
        have HE4 : Hid (rightJ d (.mk 3 t ns l) = q) := Lib.hid (by
          rw [HE3.out, ← hq, ← HS.out, bs_size]
          by_cases h : numLen t = t.length
          · rw [decide_eq_true ⟨ht, h⟩, h]; simp
          · rw [decide_eq_false (fun x => h x.2)]
            symm
            rw [beq_eq_false_iff_ne]
            omega)
        have HC : Hid (∀ W, Calls Tryd.prog 28 #[.string S] W fun e w' => e = .returned (.int .i64 (numLen t)) ∧ W = w') := Lib.hid (fun W => by rw [← HS.out]; exact rjnum_any t W (by have := HNL.out.2; omega))
        have hne : ¬ S.toList = [] := by rw [← HS.out, Lib.toList_data, bs_list]; exact ht
        have hne2 : S.toList.isEmpty = false := by
          cases hq : S.toList with
          | nil => exact absurd hq hne
          | cons a b => rfl
        clear ht HE3
        go_enter Tryd.func17, Tryd.ntmps17
        go_upto_region 6 with (fail)
        refine wp_region_held_drew (S := (fun W => Kept7 w1 W ∧ W.cell? ⟨B, 1, none⟩ = some (.string S))) (by kernel_rfl) (HA.out _ (Kept7.drew hk)) (fun hHeld => ?_)
        refine wpAnyH_take (i := 0) (v := .pointer (some ⟨B, 1, none⟩)) rfl (by kernel_rfl) (by kernel_rfl) (by kernel_rfl) (fun _ _ _ h => h) (Or.inl ⟨by rfl, by intro w hSw; (try dsimp only at hSw); go_simp⟩) hHeld ?_
        change wpAnyH _ _ _ _ _ _ _ (Act.put _ (some 51) _) _
        try simp only [Act.put, List.setIfInBounds_toArray, List.set_cons_zero, List.set_cons_succ]
        refine wpAnyH_take (i := 1) (v := .string S) rfl (by kernel_rfl) (by kernel_rfl) (by kernel_rfl) (fun _ _ _ h => h) (Or.inl ⟨by rfl, by intro w hSw; (try dsimp only at hSw); go_simp⟩) hHeld ?_
        change wpAnyH _ _ _ _ _ _ _ (Act.put _ (some 52) _) _
        try simp only [Act.put, List.setIfInBounds_toArray, List.set_cons_zero, List.set_cons_succ]
        refine wpAnyH_take (i := 2) (v := .bool true) rfl (by kernel_rfl) (by kernel_rfl) (by kernel_rfl) (fun _ _ _ h => h) (Or.inl ⟨by rfl, by intro w hSw; (try dsimp only at hSw); go_simp⟩) hHeld ?_
        change wpAnyH _ _ _ _ _ _ _ (Act.put _ (some 53) _) _
        try simp only [Act.put, List.setIfInBounds_toArray, List.set_cons_zero, List.set_cons_succ]
        refine wpAnyH_take (i := 3) (v := .bool true) rfl (by kernel_rfl) (by kernel_rfl) (by kernel_rfl) (fun _ _ _ h => h) (Or.inl ⟨by rfl, by intro w hSw; (try dsimp only at hSw); go_simp⟩) hHeld ?_
        change wpAnyH _ _ _ _ _ _ _ (Act.put _ (some 54) _) _
        try simp only [Act.put, List.setIfInBounds_toArray, List.set_cons_zero, List.set_cons_succ]
        refine wpAnyH_take (i := 4) (v := .pointer (some ⟨B, 1, none⟩)) rfl (by kernel_rfl) (by kernel_rfl) (by kernel_rfl) (fun _ _ _ h => h) (Or.inl ⟨by rfl, by intro w hSw; (try dsimp only at hSw); go_simp⟩) hHeld ?_
        change wpAnyH _ _ _ _ _ _ _ (Act.put _ (some 55) _) _
        try simp only [Act.put, List.setIfInBounds_toArray, List.set_cons_zero, List.set_cons_succ]
        refine wpAnyH_take (i := 5) (v := .string S) rfl (by kernel_rfl) (by kernel_rfl) (by kernel_rfl) (fun _ _ _ h => h) (Or.inl ⟨by rfl, by intro w hSw; (try dsimp only at hSw); go_simp⟩) hHeld ?_
        change wpAnyH _ _ _ _ _ _ _ (Act.put _ (some 56) _) _
        try simp only [Act.put, List.setIfInBounds_toArray, List.set_cons_zero, List.set_cons_succ]
        refine wpAnyH_take (i := 7) (v := .pointer (some ⟨B, 1, none⟩)) rfl (by kernel_rfl) (by kernel_rfl) (by kernel_rfl) (fun _ _ _ h => h) (Or.inl ⟨by rfl, by intro w hSw; (try dsimp only at hSw); go_simp⟩) hHeld ?_
        change wpAnyH _ _ _ _ _ _ _ (Act.put _ (some 58) _) _
        try simp only [Act.put, List.setIfInBounds_toArray, List.set_cons_zero, List.set_cons_succ]
        refine wpAnyH_take (i := 8) (v := .string S) rfl (by kernel_rfl) (by kernel_rfl) (by kernel_rfl) (fun _ _ _ h => h) (Or.inl ⟨by rfl, by intro w hSw; (try dsimp only at hSw); go_simp⟩) hHeld ?_
        change wpAnyH _ _ _ _ _ _ _ (Act.put _ (some 59) _) _
        try simp only [Act.put, List.setIfInBounds_toArray, List.set_cons_zero, List.set_cons_succ]
        refine wpAnyH_take (i := 9) (v := .int .i64 (S.size : Int)) rfl (by kernel_rfl) (by kernel_rfl) (by kernel_rfl) (fun _ _ _ h => h) (Or.inl ⟨by rfl, by intro w hSw; (try dsimp only at hSw); go_simp⟩) hHeld ?_
        change wpAnyH _ _ _ _ _ _ _ (Act.put _ (some 60) _) _
        try simp only [Act.put, List.setIfInBounds_toArray, List.set_cons_zero, List.set_cons_succ]
        refine wpAnyH_ready (rs := [6]) (by kernel_rfl) (by simp) ?_
        refine AllReadyH.cons (o := { dst := some 57, op := .call { callee := .value (.func 28), args := #[.tmp 56], argTypes := _ }, type := _, pos := _, after := _, guard := some (3, true) }) rfl (fun K hK => ?_) AllReadyH.nil
        go_simp
        (with_reducible refine (HC.out _).mono ?_)
        rintro e wc ⟨rfl, hbc⟩
        refine hK.out _ _ (HA.out _ (by rw [← hbc]; exact (And.left hHeld))) (fun hHeld => ?_)
        clear hK K
        try simp only [Act.put, List.setIfInBounds_toArray, List.set_cons_zero, List.set_cons_succ]
        refine wpAnyH_take (i := 10) (v := .bool q) rfl (by kernel_rfl) (by kernel_rfl) (by kernel_rfl) (fun _ _ _ h => h) (Or.inl ⟨by rfl, by intro w hSw; (try dsimp only at hSw); go_simp⟩) hHeld ?_
        change wpAnyH _ _ _ _ _ _ _ (Act.put _ (some 61) _) _
        try simp only [Act.put, List.setIfInBounds_toArray, List.set_cons_zero, List.set_cons_succ]
        refine wpAnyH_take (i := 11) (v := .bool q) rfl (by kernel_rfl) (by kernel_rfl) (by kernel_rfl) (fun _ _ _ h => h) (Or.inl ⟨by rfl, by intro w hSw; (try dsimp only at hSw); go_simp⟩) hHeld ?_
        change wpAnyH _ _ _ _ _ _ _ (Act.put _ (some 62) _) _
        try simp only [Act.put, List.setIfInBounds_toArray, List.set_cons_zero, List.set_cons_succ]
        refine wpAnyH_take (i := 12) (v := .bool q) rfl (by kernel_rfl) (by kernel_rfl) (by kernel_rfl) (fun _ _ _ h => h) (Or.inl ⟨by rfl, by intro w hSw; (try dsimp only at hSw); go_simp⟩) hHeld ?_
        change wpAnyH _ _ _ _ _ _ _ (Act.put _ (some 4) _) _
        try simp only [Act.put, List.setIfInBounds_toArray, List.set_cons_zero, List.set_cons_succ]
        refine wpAnyH_done (by kernel_rfl) ?_ _
        go_wp2
        go_ret
        exact ⟨by rw [HE4.out]; rfl, HB1.out.trans (Below.mono (And.left hHeld) HB1.out.size)⟩
set_option maxRecDepth 100000 in
set_option maxHeartbeats 2000000 in
theorem rright5 {N : Nat} (IH : RRightC N) {T : Nat → Prop} {t : Bt} {ns : List Bt} {l : List JV} {x : Value} {d : Nat} {z : Int} {w : World} (hW : wJ (.mk 5 t ns l) ≤ N + 1) (hN : N ≤ 99999) (hJ : JR w T (.mk 5 t ns l) x) (hz : z = (d : Int)) (hd : d ≤ 24) :
    Calls Tryd.prog 17 #[x, .int .i64 z] w fun e w' => e = .returned (.bool (rightJ d (.mk 5 t ns l))) ∧ Below w.heap.size w w' := by
  rw [wJ] at hW
  have hnsl := nsW_len ns
  have hwl := wsJ_len l
  rw [JR] at hJ
  obtain ⟨nA, nc, lA, lc, rfl, hTx, hL⟩ := hJ
  have HIH := Lib.hid IH
  have HTX := Lib.hid hTx
  have HL := Lib.hid hL
  have HNS : Hid (∀ j (h : j < ns.length), ns[j].length ≤ 100000) := Lib.hid (fun j h => by have := nsW_at ns j h; omega)
  have HNL : Hid (wsJ l ≤ N ∧ t.length ≤ 100000) := Lib.hid ⟨by omega, by omega⟩
  have HZ := Lib.hid hz
  have HD := Lib.hid hd
  have hn9 : l.length ≤ 1000000 := by omega
  have hnn9 : ns.length ≤ 1000000 := by omega
  have hz0 : 0 ≤ z := by omega
  have hz1 : z ≤ 24 := by omega
  clear hTx hL hW hnsl hwl hN hz hd IH
  obtain ⟨nn, hnn⟩ : ∃ n, ns.length = n := ⟨_, rfl⟩
  obtain ⟨n, hn⟩ : ∃ n, l.length = n := ⟨_, rfl⟩
  rw [hnn, hn]
  rw [hn] at hn9
  rw [hnn] at hnn9
  have HNN := Lib.hid hnn
  have HN := Lib.hid hn
  clear hnn hn
  obtain ⟨S, hS⟩ : ∃ s, bs t = s := ⟨_, rfl⟩
  have HS := Lib.hid hS
  rw [hS]
  clear hS
  obtain ⟨B, hB⟩ : ∃ B, w.heap.size = B := ⟨_, rfl⟩
  obtain ⟨w1, hw1⟩ : ∃ W, w.alloc (.cells #[.int .i64 5, .string S, .slice nA nn nc, .slice lA n lc] TJ) = W := ⟨_, rfl⟩
  have HB1 : Hid (Below w.heap.size w w1) := Lib.hid (by rw [← hw1]; exact (Below.refl _ _).alloc (Nat.le_refl _) _)
  have HX1 : Hid (J4 B (.int .i64 5) (.string S) (.slice nA nn nc) (.slice lA n lc) w1) := Lib.hid (by rw [← hw1, ← hB]; exact Blk.new _ w)
  have e0 := HX1.out.c0
  have e1 := HX1.out.c1
  have e2 := HX1.out.c2
  have e3 := HX1.out.c3
  have HE : Hid (rightJ d (.mk 5 t ns l) = (decide (t = []) && decide (ns.length = 0) && areB d l)) := Lib.hid right_five
  by_cases hnq : nn = 0
  case neg =>
    have hnb : (0 : Int) < (nn : Int) := by omega
    have HE2 : Hid (rightJ d (.mk 5 t ns l) = false) := Lib.hid (by rw [HE.out, HNN.out, decide_eq_false hnq]; simp)
    go_enter Tryd.func17, Tryd.ntmps17
    go_wp2
    go_ret
    exact ⟨by rw [HE2.out]; rfl, HB1.out⟩
  subst hnq
  by_cases ht : t = []
  case neg =>
    have HE2 : Hid (rightJ d (.mk 5 t ns l) = false) := Lib.hid (by rw [HE.out, decide_eq_false ht]; simp)
    have hne : ¬ S.toList = [] := by rw [← HS.out, Lib.toList_data, bs_list]; exact ht
    have hne2 : S.toList.isEmpty = false := by
      cases hq : S.toList with
      | nil => exact absurd hq hne
      | cons a b => rfl
    clear ht HE
    go_enter Tryd.func17, Tryd.ntmps17
    go_wp2
    go_ret
    exact ⟨by rw [HE2.out]; rfl, HB1.out⟩
  have HE2 : Hid (rightJ d (.mk 5 t ns l) = (areB d l)) := Lib.hid (by rw [HE.out, decide_eq_true ht, HNN.out, decide_eq_true rfl]; simp)
  have hne : S.toList = [] := by rw [← HS.out, Lib.toList_data, bs_list, ht]
  clear ht HE
  by_cases hd24 : d = 24
  · have hzb : (z == 24) = true := by rw [HZ.out, hd24]; rfl
    have HE3 : Hid (rightJ d (.mk 5 t ns l) = false) := Lib.hid (by rw [HE2.out]; unfold areB; rw [decide_eq_false (fun h => h hd24)]; simp)
    clear hd24
    go_enter Tryd.func17, Tryd.ntmps17
    go_wp2
    go_ret
    exact ⟨by rw [HE3.out]; rfl, HB1.out⟩
  have hz24 : ¬ z = 24 := by have := HZ.out; omega
  have hzb : (z == 24) = false := by rw [beq_eq_false_iff_ne]; exact hz24
  have HE3 : Hid (rightJ d (.mk 5 t ns l) = (rightsJ (d + 1) l)) := Lib.hid (by rw [HE2.out]; unfold areB; rw [decide_eq_true hd24]; simp)
  have HD3 : Hid (d + 1 ≤ 24) := Lib.hid (by have := HD.out; omega)
  clear hd24
  go_enter Tryd.func17, Tryd.ntmps17
  go_wp2
  go_loopw [84] (fun i wr => ∃ j : Nat, j ≤ n ∧ i = .int .i64 j ∧ Hid (rightsJ (d + 1) (l.take j) = true) ∧ Hid (Below w.heap.size w wr ∧ J4 B (.int .i64 5) (.string S) (.slice nA 0 nc) (.slice lA n lc) wr)) (fun i _ => n - (RowKit.intOf i).toNat)
  case atStart => exact ⟨0, Nat.zero_le _, rfl, Lib.hid rfl, Lib.hid ⟨HB1.out, HX1.out⟩⟩
  case round =>
    clear e0 e1 e2 e3
    obtain ⟨j, hj, rfl, HR, HW⟩ := hrel
    have e0 := HW.out.2.c0
    have e1 := HW.out.2.c1
    have e2 := HW.out.2.c2
    have e3 := HW.out.2.c3
    by_cases hjn : j < n
    · have hjl : j < l.length := by rw [HN.out]; exact hjn
      have hj1 : (j : Int) < (n : Int) := by omega
      obtain ⟨b, off, rfl, _, hbw, hJl⟩ := HL.out (by omega)
      obtain ⟨x0, x1, x2, x3, c0, c1, c2, c3, hJ⟩ := hJl.at j hjl
      obtain ⟨k', s', nA', nn', nc', lA', ln', lc', rfl, rfl, rfl, rfl⟩ := jr_form hJ
      have HY : Hid (∀ W, Below w.heap.size w W → W.cell? ⟨b, off + j * 4, none⟩ = some (.int .i64 k') ∧ W.cell? ⟨b, off + j * 4 + 1, none⟩ = some (.string s') ∧ W.cell? ⟨b, off + j * 4 + 2, none⟩ = some (.slice nA' nn' nc') ∧ W.cell? ⟨b, off + j * 4 + 3, none⟩ = some (.slice lA' ln' lc')) := Lib.hid (fun W h =>
        ⟨(h.cell (p := ⟨b, off + j * 4, none⟩) hbw).trans c0, (h.cell (p := ⟨b, off + j * 4 + 1, none⟩) hbw).trans c1, (h.cell (p := ⟨b, off + j * 4 + 2, none⟩) hbw).trans c2, (h.cell (p := ⟨b, off + j * 4 + 3, none⟩) hbw).trans c3⟩)
      obtain ⟨q, hq⟩ : ∃ q, rightJ (d + 1) l[j] = q := ⟨_, rfl⟩
      have HC : Hid (∀ W, Below w.heap.size w W → Calls Tryd.prog 17 #[.agg #[.int .i64 k', .string s', .slice nA' nn' nc', .slice lA' ln' lc'], .int .i64 (z + 1)] W fun e w' => e = .returned (.bool q) ∧ Below W.heap.size W w') := Lib.hid (fun W h => by
        rw [← hq]
        exact HIH.out T l[j] _ (d + 1) (z + 1) W (by have := wsJ_at l j hjl; have := HNL.out.1; omega) (hJ.below h) (by rw [HZ.out]; rfl) HD3.out)
      have HQ : Hid (rightsJ (d + 1) (l.take (j + 1)) = q) := Lib.hid (by rw [rights_take l (d + 1) j hjl, HR.out, hq, Bool.true_and])
      have HQF : Hid (q = false → rightJ d (.mk 5 t ns l) = false) := Lib.hid (fun h => by rw [HE3.out, rights_some hjl (hq.trans h)])
      clear c0 c1 c2 c3 hJ hJl hq
      obtain ⟨y0, y1, y2, y3⟩ := HY.out _ HW.out.1
      cases q with
      | true =>
        go_wp2_with (go_at_call 17; (with_reducible refine (HC.out _ HW.out.1).mono ?_); rintro e w5 ⟨rfl, b5⟩; have HB5 := Lib.hid (HW.out.1.trans (b5.mono HW.out.1.size)); have HX5 := Lib.hid (HW.out.2.below b5); clear b5)
        exact ⟨⟨j + 1, by omega, rfl, Lib.hid HQ.out, Lib.hid ⟨HB5.out, HX5.out⟩⟩, by show n - ((j : Int) + 1).toNat < n - (j : Int).toNat; omega⟩
      | false =>
        go_wp2_with (go_at_call 17; (with_reducible refine (HC.out _ HW.out.1).mono ?_); rintro e w5 ⟨rfl, b5⟩; have HB5 := Lib.hid (HW.out.1.trans (b5.mono HW.out.1.size)); have HX5 := Lib.hid (HW.out.2.below b5); clear b5)
        go_ret
        exact ⟨by rw [HQF.out (by first | rfl | trivial)]; rfl, HB5.out⟩
    · obtain rfl : j = n := by omega
      have htk : l.take j = l := List.take_of_length_le (by rw [HN.out]; exact Nat.le_refl _)
      have HE4 : Hid (rightJ d (.mk 5 t ns l) = true) := Lib.hid (by rw [HE3.out, ← htk, HR.out])
      clear htk
      go_wp2
      go_ret
      exact ⟨by rw [HE4.out]; rfl, HW.out.1⟩
set_option maxRecDepth 100000 in
set_option maxHeartbeats 2000000 in
theorem rright6 {N : Nat} (IH : RRightC N) {T : Nat → Prop} {t : Bt} {ns : List Bt} {l : List JV} {x : Value} {d : Nat} {z : Int} {w : World} (hW : wJ (.mk 6 t ns l) ≤ N + 1) (hN : N ≤ 99999) (hJ : JR w T (.mk 6 t ns l) x) (hz : z = (d : Int)) (hd : d ≤ 24) :
    Calls Tryd.prog 17 #[x, .int .i64 z] w fun e w' => e = .returned (.bool (rightJ d (.mk 6 t ns l))) ∧ Below w.heap.size w w' := by
  rw [wJ] at hW
  have hnsl := nsW_len ns
  have hwl := wsJ_len l
  rw [JR] at hJ
  obtain ⟨nA, nc, lA, lc, rfl, hTx, hL⟩ := hJ
  have HIH := Lib.hid IH
  have HTX := Lib.hid hTx
  have HL := Lib.hid hL
  have HNS : Hid (∀ j (h : j < ns.length), ns[j].length ≤ 100000) := Lib.hid (fun j h => by have := nsW_at ns j h; omega)
  have HNL : Hid (wsJ l ≤ N ∧ t.length ≤ 100000) := Lib.hid ⟨by omega, by omega⟩
  have HZ := Lib.hid hz
  have HD := Lib.hid hd
  have hn9 : l.length ≤ 1000000 := by omega
  have hnn9 : ns.length ≤ 1000000 := by omega
  have hz0 : 0 ≤ z := by omega
  have hz1 : z ≤ 24 := by omega
  clear hTx hL hW hnsl hwl hN hz hd IH
  obtain ⟨nn, hnn⟩ : ∃ n, ns.length = n := ⟨_, rfl⟩
  obtain ⟨n, hn⟩ : ∃ n, l.length = n := ⟨_, rfl⟩
  rw [hnn, hn]
  rw [hn] at hn9
  rw [hnn] at hnn9
  have HNN := Lib.hid hnn
  have HN := Lib.hid hn
  clear hnn hn
  obtain ⟨S, hS⟩ : ∃ s, bs t = s := ⟨_, rfl⟩
  have HS := Lib.hid hS
  rw [hS]
  clear hS
  obtain ⟨B, hB⟩ : ∃ B, w.heap.size = B := ⟨_, rfl⟩
  obtain ⟨w1, hw1⟩ : ∃ W, w.alloc (.cells #[.int .i64 6, .string S, .slice nA nn nc, .slice lA n lc] TJ) = W := ⟨_, rfl⟩
  have HB1 : Hid (Below w.heap.size w w1) := Lib.hid (by rw [← hw1]; exact (Below.refl _ _).alloc (Nat.le_refl _) _)
  have HX1 : Hid (J4 B (.int .i64 6) (.string S) (.slice nA nn nc) (.slice lA n lc) w1) := Lib.hid (by rw [← hw1, ← hB]; exact Blk.new _ w)
  have e0 := HX1.out.c0
  have e1 := HX1.out.c1
  have e2 := HX1.out.c2
  have e3 := HX1.out.c3
  have HE : Hid (rightJ d (.mk 6 t ns l) = (decide (t = []) && decide (ns.length = l.length) && ns.all validD && areB d l)) := Lib.hid right_six
  by_cases hnq : nn = n
  case neg =>
    have hnb : ¬ (nn : Int) = (n : Int) := by omega
    have hnb2 : ((nn : Int) == (n : Int)) = false := by rw [beq_eq_false_iff_ne]; exact hnb
    have HE2 : Hid (rightJ d (.mk 6 t ns l) = false) := Lib.hid (by rw [HE.out, HNN.out, HN.out, decide_eq_false hnq]; simp)
    go_enter Tryd.func17, Tryd.ntmps17
    go_wp2
    go_ret
    exact ⟨by rw [HE2.out]; rfl, HB1.out⟩
  subst hnq
  have hnb2 : ((nn : Int) == (nn : Int)) = true := by simp
  by_cases ht : t = []
  case neg =>
    have HE2 : Hid (rightJ d (.mk 6 t ns l) = false) := Lib.hid (by rw [HE.out, decide_eq_false ht]; simp)
    have hne : ¬ S.toList = [] := by rw [← HS.out, Lib.toList_data, bs_list]; exact ht
    have hne2 : S.toList.isEmpty = false := by
      cases hq : S.toList with
      | nil => exact absurd hq hne
      | cons a b => rfl
    clear ht HE
    go_enter Tryd.func17, Tryd.ntmps17
    go_wp2
    go_ret
    exact ⟨by rw [HE2.out]; rfl, HB1.out⟩
  have HE2 : Hid (rightJ d (.mk 6 t ns l) = (ns.all validD && areB d l)) := Lib.hid (by rw [HE.out, decide_eq_true ht, HNN.out, HN.out, decide_eq_true rfl]; simp)
  have hne : S.toList = [] := by rw [← HS.out, Lib.toList_data, bs_list, ht]
  clear ht HE
  by_cases hd24 : d = 24
  · have hzb : (z == 24) = true := by rw [HZ.out, hd24]; rfl
    have HE3 : Hid (rightJ d (.mk 6 t ns l) = false) := Lib.hid (by rw [HE2.out]; unfold areB; rw [decide_eq_false (fun h => h hd24)]; simp)
    clear hd24
    go_enter Tryd.func17, Tryd.ntmps17
    go_wp2
    go_ret
    exact ⟨by rw [HE3.out]; rfl, HB1.out⟩
  have hz24 : ¬ z = 24 := by have := HZ.out; omega
  have hzb : (z == 24) = false := by rw [beq_eq_false_iff_ne]; exact hz24
  have HE3 : Hid (rightJ d (.mk 6 t ns l) = (ns.all validD && rightsJ (d + 1) l)) := Lib.hid (by rw [HE2.out]; unfold areB; rw [decide_eq_true hd24]; simp)
  have HD3 : Hid (d + 1 ≤ 24) := Lib.hid (by have := HD.out; omega)
  clear hd24
  go_enter Tryd.func17, Tryd.ntmps17
  go_wp2
  go_loopw [84] (fun i wr => ∃ j : Nat, j ≤ nn ∧ i = .int .i64 j ∧ Hid (rightsJ (d + 1) (l.take j) = true ∧ (ns.take j).all validD = true) ∧ Hid (Below w.heap.size w wr ∧ J4 B (.int .i64 6) (.string S) (.slice nA nn nc) (.slice lA nn lc) wr)) (fun i _ => nn - (RowKit.intOf i).toNat)
  case atStart => exact ⟨0, Nat.zero_le _, rfl, Lib.hid ⟨rfl, rfl⟩, Lib.hid ⟨HB1.out, HX1.out⟩⟩
  case round =>
    clear e0 e1 e2 e3
    obtain ⟨j, hj, rfl, HR, HW⟩ := hrel
    have e0 := HW.out.2.c0
    have e1 := HW.out.2.c1
    have e2 := HW.out.2.c2
    have e3 := HW.out.2.c3
    by_cases hjn : j < nn
    · have hjl : j < l.length := by rw [HN.out]; exact hjn
      have hj1 : (j : Int) < (nn : Int) := by omega
      obtain ⟨b, off, rfl, _, hbw, hJl⟩ := HL.out (by omega)
      obtain ⟨x0, x1, x2, x3, c0, c1, c2, c3, hJ⟩ := hJl.at j hjl
      obtain ⟨k', s', nA', nn', nc', lA', ln', lc', rfl, rfl, rfl, rfl⟩ := jr_form hJ
      have HY : Hid (∀ W, Below w.heap.size w W → W.cell? ⟨b, off + j * 4, none⟩ = some (.int .i64 k') ∧ W.cell? ⟨b, off + j * 4 + 1, none⟩ = some (.string s') ∧ W.cell? ⟨b, off + j * 4 + 2, none⟩ = some (.slice nA' nn' nc') ∧ W.cell? ⟨b, off + j * 4 + 3, none⟩ = some (.slice lA' ln' lc')) := Lib.hid (fun W h =>
        ⟨(h.cell (p := ⟨b, off + j * 4, none⟩) hbw).trans c0, (h.cell (p := ⟨b, off + j * 4 + 1, none⟩) hbw).trans c1, (h.cell (p := ⟨b, off + j * 4 + 2, none⟩) hbw).trans c2, (h.cell (p := ⟨b, off + j * 4 + 3, none⟩) hbw).trans c3⟩)
      obtain ⟨q, hq⟩ : ∃ q, rightJ (d + 1) l[j] = q := ⟨_, rfl⟩
      have HC : Hid (∀ W, Below w.heap.size w W → Calls Tryd.prog 17 #[.agg #[.int .i64 k', .string s', .slice nA' nn' nc', .slice lA' ln' lc'], .int .i64 (z + 1)] W fun e w' => e = .returned (.bool q) ∧ Below W.heap.size W w') := Lib.hid (fun W h => by
        rw [← hq]
        exact HIH.out T l[j] _ (d + 1) (z + 1) W (by have := wsJ_at l j hjl; have := HNL.out.1; omega) (hJ.below h) (by rw [HZ.out]; rfl) HD3.out)
      have HQ : Hid (rightsJ (d + 1) (l.take (j + 1)) = q) := Lib.hid (by rw [rights_take l (d + 1) j hjl, HR.out.1, hq, Bool.true_and])
      have HQF : Hid (q = false → rightJ d (.mk 6 t ns l) = false) := Lib.hid (fun h => by rw [HE3.out, rights_some hjl (hq.trans h)]; simp)
      clear c0 c1 c2 c3 hJ hJl hq
      have hjs : j < ns.length := by rw [HNN.out]; exact hjn
      obtain ⟨bn, offn, rfl, _, hbn, hcn⟩ := HTX.out (by omega)
      have yn := (HW.out.1.cell (p := ⟨bn, offn + j, none⟩) hbn).trans (hcn j hjs)
      obtain ⟨p, hp⟩ : ∃ p, validD ns[j] = p := ⟨_, rfl⟩
      have HV := Lib.hid (rvalid_any (bs ns[j]) wr (by rw [bs_size]; have := HNS.out j hjs; omega))
      have hsl : (bs ns[j]).data.toList = ns[j] := bs_list _
      rw [hsl, hp] at HV
      obtain ⟨M, hM⟩ : ∃ m, bs ns[j] = m := ⟨_, rfl⟩
      rw [hM] at HV yn
      have HP : Hid ((ns.take (j + 1)).all validD = p) := Lib.hid (by rw [alls_takeQ ns j hjs, HR.out.2, hp, Bool.true_and])
      have HPF : Hid (p = false → rightJ d (.mk 6 t ns l) = false) := Lib.hid (fun h => by rw [HE3.out, alls_someQ hjs (hp.trans h), Bool.false_and])
      clear hsl hp hM hcn
      cases p with
      | false =>
        go_wp2_with (go_at_call 29; (with_reducible refine HV.out.mono ?_); rintro e w4 ⟨rfl, b4⟩; have HB4 := Lib.hid (HW.out.1.trans (b4.mono HW.out.1.size)); have HX4 := Lib.hid (HW.out.2.below b4); have g0 := HX4.out.c0; have g1 := HX4.out.c1; have g2 := HX4.out.c2; have g3 := HX4.out.c3; obtain ⟨y0, y1, y2, y3⟩ := HY.out _ HB4.out; clear b4)
        go_ret
        exact ⟨by rw [HPF.out (by first | rfl | trivial)]; rfl, HB4.out⟩
      | true =>
        cases q with
        | true =>
          go_wp2_with (first | (go_at_call 29; (with_reducible refine HV.out.mono ?_); rintro e w4 ⟨rfl, b4⟩; have HB4 := Lib.hid (HW.out.1.trans (b4.mono HW.out.1.size)); have HX4 := Lib.hid (HW.out.2.below b4); have g0 := HX4.out.c0; have g1 := HX4.out.c1; have g2 := HX4.out.c2; have g3 := HX4.out.c3; obtain ⟨y0, y1, y2, y3⟩ := HY.out _ HB4.out; clear b4) | (go_at_call 17; (with_reducible refine (HC.out _ HB4.out).mono ?_); rintro e w5 ⟨rfl, b5⟩; have HB5 := Lib.hid (HB4.out.trans (b5.mono HB4.out.size)); have HX5 := Lib.hid (HX4.out.below b5); clear b5))
          exact ⟨⟨j + 1, by omega, rfl, Lib.hid ⟨HQ.out, HP.out⟩, Lib.hid ⟨HB5.out, HX5.out⟩⟩, by show nn - ((j : Int) + 1).toNat < nn - (j : Int).toNat; omega⟩
        | false =>
          go_wp2_with (first | (go_at_call 29; (with_reducible refine HV.out.mono ?_); rintro e w4 ⟨rfl, b4⟩; have HB4 := Lib.hid (HW.out.1.trans (b4.mono HW.out.1.size)); have HX4 := Lib.hid (HW.out.2.below b4); have g0 := HX4.out.c0; have g1 := HX4.out.c1; have g2 := HX4.out.c2; have g3 := HX4.out.c3; obtain ⟨y0, y1, y2, y3⟩ := HY.out _ HB4.out; clear b4) | (go_at_call 17; (with_reducible refine (HC.out _ HB4.out).mono ?_); rintro e w5 ⟨rfl, b5⟩; have HB5 := Lib.hid (HB4.out.trans (b5.mono HB4.out.size)); have HX5 := Lib.hid (HX4.out.below b5); clear b5))
          go_ret
          exact ⟨by rw [HQF.out (by first | rfl | trivial)]; rfl, HB5.out⟩
    · obtain rfl : j = nn := by omega
      have htk : l.take j = l := List.take_of_length_le (by rw [HN.out]; exact Nat.le_refl _)
      have htn : ns.take j = ns := List.take_of_length_le (by rw [HNN.out]; exact Nat.le_refl _)
      have HE4 : Hid (rightJ d (.mk 6 t ns l) = true) := Lib.hid (by rw [HE3.out, ← htk, HR.out.1]; rw [← htn, HR.out.2]; rfl)
      clear htk
      go_wp2
      go_ret
      exact ⟨by rw [HE4.out]; rfl, HW.out.1⟩
theorem rright_all : ∀ N, N ≤ 100000 → RRightC N
  | 0, _, _, v, _, _, _, _, hW, _, _, _ => by have := wJ_pos v; omega
  | N + 1, hN, T, .mk k t ns l, x, d, z, w, hW, hJ, hz, hd => by
    have IH := rright_all N (by omega)
    by_cases hk : k < 0 ∨ 6 < k
    · exact rright_else IH hW (by omega) hJ hz hd hk
    · have : k = 0 ∨ k = 1 ∨ k = 2 ∨ k = 3 ∨ k = 4 ∨ k = 5 ∨ k = 6 := by omega
      rcases this with rfl | rfl | rfl | rfl | rfl | rfl | rfl
      · exact rright0 IH hW (by omega) hJ hz hd
      · exact rright1 IH hW (by omega) hJ hz hd
      · exact rright2 IH hW (by omega) hJ hz hd
      · exact rright3 IH hW (by omega) hJ hz hd
      · exact rright4 IH hW (by omega) hJ hz hd
      · exact rright5 IH hW (by omega) hJ hz hd
      · exact rright6 IH hW (by omega) hJ hz hd
end Go.Proofs.YtchgelfomnbpaaaDoor
