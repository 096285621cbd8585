/-
  The walk of package date's pad. Conditions: the library's table of powers of ten holds what it is laid with; numbers that fit.
-/
import Derived.Test.YtocmppafmaehcaaDoorDA
import Derived.Test.YtocmppafmaehcaaDoorDShelf
import Derived.Test.YtocmppafmaehcaaDoorDShelR
import Derived.Lib.AppendIntMem
namespace Go.Proofs.YtocmppafmaehcaaDoor
open Go.RowKit
open Go.Lib

/-- The library's table of powers of ten. -/
def Tab (w : World) : Prop := TabIs Tryd.prog w "internal/strconv.uint64pow10" .u64 pow10Tab
theorem Tab.below {w w' : World} (h : Tab w) (hb : Below w.heap.size w w') : Tab w' := tabBelow_of_tabIs h w' hb
theorem below_grow (w : World) (k : Nat) (os : Array Obj) : Below w.heap.size w (Go.Sort.grow (w.drewN k) os) := by
  refine ⟨rfl, rfl, rfl, by simp [Go.Sort.grow], fun i hi => ?_⟩
  show (w.heap ++ os)[i]? = w.heap[i]?
  rw [Array.getElem?_append_left hi]
theorem itoa_any (n : Int) (w : World) (hT : Tab w) (h0 : 0 ≤ n) (h1 : n ≤ 9999) : Calls Tryd.prog 54 #[.int .i64 n] w fun e w' => e = .returned (.string ⟨(itoa n).toArray⟩) ∧ Below w.heap.size w w' :=
  (libItoa n (by omega) (by omega) w hT).mono fun _ _ ⟨h, k, os, hw⟩ => ⟨h, hw ▸ below_grow w k os⟩
theorem rep_any (k : Int) (w : World) (h0 : 0 ≤ k) (h1 : k ≤ 10) : Calls Tryd.prog 55 #[.string ⟨#[48]⟩, .int .i64 k] w fun e w' => e = .returned (.string ⟨(repeatL [48] k.toNat).toArray⟩) ∧ Below w.heap.size w w' := by
  have h := libRepeat ⟨#[48]⟩ k.toNat w (by omega) (by show 1 * k.toNat ≤ _; omega)
  rw [show ((k.toNat : Nat) : Int) = k by omega] at h
  exact h
theorem dg_of (u : Nat) (h : u < 10) : UInt8.ofNat (48 + u) = dg u := by
  unfold dg
  rw [show ((48 : Int) + (u : Int)).toNat = 48 + u by omega, Nat.toUInt8_eq]
theorem dec1 (u : Nat) (h : u < 10) : decDigits u = [dg u] := by rw [decDigits, dif_pos h, dg_of u h]
theorem decS (u : Nat) (h : 10 ≤ u) : decDigits u = decDigits (u / 10) ++ [dg ((u % 10 : Nat) : Int)] := by
  conv => lhs; rw [decDigits, dif_neg (by omega)]
  rw [dg_of _ (Nat.mod_lt _ (by omega))]
theorem itoa_nat (n : Int) (h : 0 ≤ n) : itoa n = decDigits n.toNat := by unfold itoa; rw [if_neg (by omega)]
theorem rep_dg (k : Nat) : repeatL [48] k = List.replicate k (dg 0) := by
  induction k with
  | zero => rfl
  | succ k ih => rw [List.replicate_succ, ← ih]; rfl
theorem pad_two (n : Int) (h0 : 0 ≤ n) (h1 : n ≤ 99) : (itoa n).length ≤ 2 ∧ 1 ≤ (itoa n).length ∧ repeatL [48] (2 - (itoa n).length) ++ itoa n = two n := by
  obtain ⟨u, rfl⟩ : ∃ u : Nat, n = u := ⟨n.toNat, by omega⟩
  rw [itoa_nat _ h0, show ((u : Int)).toNat = u by omega, rep_dg]
  unfold two
  by_cases a : u < 10
  · rw [dec1 u a, show ((u : Int)) / 10 = 0 by omega, show ((u : Int)) % 10 = u by omega]
    exact ⟨by simp, by simp, rfl⟩
  · rw [decS u (by omega), dec1 (u / 10) (by omega)]
    refine ⟨by simp, by simp, ?_⟩
    simp
theorem pad_four (n : Int) (h0 : 0 ≤ n) (h1 : n ≤ 9999) : (itoa n).length ≤ 4 ∧ 1 ≤ (itoa n).length ∧ repeatL [48] (4 - (itoa n).length) ++ itoa n = four n := by
  obtain ⟨u, rfl⟩ : ∃ u : Nat, n = u := ⟨n.toNat, by omega⟩
  rw [itoa_nat _ h0, show ((u : Int)).toNat = u by omega, rep_dg]
  unfold four two
  by_cases a : u < 10
  · rw [dec1 u a, show ((u : Int)) / 100 / 10 = 0 by omega, show ((u : Int)) / 100 % 10 = 0 by omega, show ((u : Int)) % 100 / 10 = 0 by omega, show ((u : Int)) % 100 % 10 = u by omega]
    exact ⟨by simp, by simp, rfl⟩
  by_cases b : u < 100
  · rw [decS u (by omega), dec1 (u / 10) (by omega), show ((u : Int)) / 100 / 10 = 0 by omega, show ((u : Int)) / 100 % 10 = 0 by omega, show ((u : Int)) % 100 / 10 = ((u / 10 : Nat) : Int) by omega, show ((u : Int)) % 100 % 10 = ((u % 10 : Nat) : Int) by omega]
    exact ⟨by simp, by simp, rfl⟩
  by_cases c : u < 1000
  · rw [decS u (by omega), decS (u / 10) (by omega), dec1 (u / 10 / 10) (by omega), show ((u : Int)) / 100 / 10 = 0 by omega, show ((u : Int)) / 100 % 10 = ((u / 10 / 10 : Nat) : Int) by omega, show ((u : Int)) % 100 / 10 = ((u / 10 % 10 : Nat) : Int) by omega, show ((u : Int)) % 100 % 10 = ((u % 10 : Nat) : Int) by omega]
    exact ⟨by simp, by simp, rfl⟩
  · rw [decS u (by omega), decS (u / 10) (by omega), decS (u / 10 / 10) (by omega), dec1 (u / 10 / 10 / 10) (by omega), show ((u : Int)) / 100 / 10 = ((u / 10 / 10 / 10 : Nat) : Int) by omega, show ((u : Int)) / 100 % 10 = ((u / 10 / 10 % 10 : Nat) : Int) by omega, show ((u : Int)) % 100 / 10 = ((u / 10 % 10 : Nat) : Int) by omega, show ((u : Int)) % 100 % 10 = ((u % 10 : Nat) : Int) by omega]
    exact ⟨by simp, by simp, rfl⟩
def TextOut (l : List UInt8) (w : World) (e : Ending) (w' : World) : Prop := e = .returned (.string ⟨l.toArray⟩) ∧ Below w.heap.size w w'
theorem cat_text (a b : List UInt8) : (⟨a.toArray⟩ : ByteArray) ++ ⟨b.toArray⟩ = ⟨(a ++ b).toArray⟩ := by
  apply ByteArray.ext
  simp
set_option maxRecDepth 100000 in
set_option maxHeartbeats 1000000 in
theorem pad_gen (n : Int) (k : Nat) (l : List UInt8) (w : World) (hT : Tab w) (h0 : 0 ≤ n) (h1 : n ≤ 9999) (hk : k ≤ 9) (hl : (itoa n).length ≤ k) (he : repeatL [48] (k - (itoa n).length) ++ itoa n = l) :
    Calls Tryd.prog 36 #[.int .i64 n, .int .i64 k] w (TextOut l w) := by
  have hi := itoa_any n w hT h0 h1
  clear hT
  subst he
  generalize itoa n = ds at *
  obtain ⟨d, hd⟩ : ∃ d : ByteArray, d = ⟨ds.toArray⟩ := ⟨_, rfl⟩
  rw [← hd] at hi
  have hs : d.size = ds.length := by rw [size_list, hd]
  have HD := Lib.hid hd
  have HS := Lib.hid hs
  have hs2 : d.size ≤ k := by omega
  have hr := fun W => rep_any (max 0 ((k : Int) - (d.size : Int))) W (by omega) (by omega)
  rw [show (max 0 ((k : Int) - (d.size : Int))).toNat = k - ds.length by omega] at hr
  obtain ⟨q, hq⟩ : ∃ q : ByteArray, q = ⟨(repeatL [48] (k - ds.length)).toArray⟩ := ⟨_, rfl⟩
  rw [← hq] at hr
  have hqs : q.size ≤ 9 := by rw [size_list, hq]; show (repeatL [48] (k - ds.length)).length ≤ 9; rw [repeatL_length]; simp; omega
  have HQ := Lib.hid hq
  clear hd hs hq hl
  go_enter Tryd.func36, Tryd.ntmps36
  go_wp2_with fail
  refine hi.mono ?_
  clear hi
  rintro e w1 ⟨rfl, b1⟩
  go_wp2_with fail
  refine (hr _).mono ?_
  clear hr
  rintro e w2 ⟨rfl, b2⟩
  go_wp2
  go_ret
  refine ⟨?_, b1.trans (b2.mono b1.size)⟩
  rw [← cat_text, ← HQ.out, ← HD.out]
  rfl
theorem pad2 (n : Int) (w : World) (hT : Tab w) (h0 : 0 ≤ n) (h1 : n ≤ 99) : Calls Tryd.prog 36 #[.int .i64 n, .int .i64 2] w (TextOut (two n) w) := by
  obtain ⟨a, _, c⟩ := pad_two n h0 h1
  exact pad_gen n 2 (two n) w hT h0 (by omega) (by omega) a c
theorem pad4 (n : Int) (w : World) (hT : Tab w) (h0 : 0 ≤ n) (h1 : n ≤ 9999) : Calls Tryd.prog 36 #[.int .i64 n, .int .i64 4] w (TextOut (four n) w) := by
  obtain ⟨a, _, c⟩ := pad_four n h0 h1
  exact pad_gen n 4 (four n) w hT h0 (by omega) (by omega) a c
end Go.Proofs.YtocmppafmaehcaaDoor
