/-
  Of the proofs of layer 8 (elements of XML): the parts Words ReadP Read. No conditions.
-/
import Derived.Test.YtklcjimmbkpbdaaGreatDoorChecked
import Derived.Test.YtklcjimmbkpbdaaGreatDoorZ01
import Derived.WalkKit
import Derived.BigCall
import Derived.Lib.Hide
import Derived.Deep.QuietTactic
import Derived.BigQuiet
namespace Go.Proofs.YtklcjimmbkpbdaaGreatDoor
open Go.RowKit Go.Lib
theorem Tryz.info3 : (Tryz.prog.info? 3).map (fun i => (i.zero, i.size, i.bytes)) = some (some (.int .i64 0), 1, 8) := by kernel_rfl
theorem Tryz.infoB : (Tryz.prog.info? 5).map (fun i => (i.zero, i.size, i.bytes)) = some (some (.int .u8 0), 1, 1) := by kernel_rfl
def RI (w : World) (A : Option Addr) (zs : List Int) : Prop :=
 0 < zs.length → ∃ b off, A = some ⟨b, off, none⟩ ∧ b < w.heap.size ∧ ∀ j, j < zs.length → w.cell? ⟨b, off + j, none⟩ = some (.int .i64 (zs.getD j 0))
def OutI (w : World) (zs : List Int) (e : Ending) (w' : World) : Prop :=
 ∃ A c, e = .returned (.slice A zs.length c) ∧ zs.length ≤ c ∧ RI w' A zs ∧ Below w.heap.size w w'
theorem RI.of_own {w : World} {base e : Nat} {v : Value} {zs : List Int} (h : w.ownsRow base e 1 v zs.length (zs.map (Value.int .i64))) :
    ∃ A c, v = .slice A zs.length c ∧ zs.length ≤ c ∧ RI w A zs := by
 rcases h.2 with ⟨rfl, hn⟩ | ⟨g, cap, cur, rfl, hb, hh, hc, _, _, _⟩
 ·exact ⟨none, 0, by rw [hn], by omega, fun hz => absurd hz (by omega)⟩
 ·refine ⟨some ⟨g, 0, none⟩, cap, rfl, hc, fun _ => ⟨g, 0, rfl, (h.lt g rfl).2, fun j hj => ?_⟩⟩
  rw [Nat.zero_add, h.cellAt j (by omega), List.getElem?_map, List.getElem?_eq_getElem hj]
  simp [List.getD, List.getElem?_eq_getElem hj]
theorem OutI.of_own {w w' : World} {base e : Nat} {v : Value} {zs : List Int} (h : w'.ownsRow base e 1 v zs.length (zs.map (Value.int .i64))) (hb : Below w.heap.size w w') :
    OutI w zs (.returned v) w' := by
 obtain ⟨A, c, rfl, hc, hr⟩ := RI.of_own h
 exact ⟨A, c, rfl, hc, hr, hb⟩
theorem own_below {w w' : World} {base e size n : Nat} {v : Value} {xs : List Value} (h : w.ownsRow base e size v n xs) (hb : Below w.heap.size w w') : w'.ownsRow base e size v n xs := by
 refine h.kept (row := none) ⟨hb.os, hb.tape, hb.output, hb.size, fun k hk _ => hb.block k hk⟩ ?_
 cases v.ownBlock with
 | none => exact .inl rfl
 | some k => exact .inr (by simp)
theorem own_more {w w1 : World} {base B e : Nat} {v v' : Value} {zs : List Int} {z : Int} {w0 : World} {o : Obj} (hB : B ≤ base) (hown : w.ownsRow base e 1 v zs.length (zs.map (Value.int .i64))) (hb : Below B w0 w) (hBw : B ≤ w.heap.size)
    (hown' : w1.ownsRow base e 1 v' (zs.length + 1) (zs.map (Value.int .i64) ++ [.int .i64 z])) (hg : (w.alloc o).grownBy w1 v.ownBlock) :
    w1.ownsRow base e 1 v' (zs ++ [z]).length ((zs ++ [z]).map (Value.int .i64)) ∧ Below B w0 w1 := by
 refine ⟨by simpa using hown', ?_⟩
 refine (hb.alloc hBw o).grown hg (by simp; omega) (fun k hk => ?_)
 have := (hown.lt k hk).1
 omega
theorem c1_one (w : World) (q : IntKind) (z : Int) (t : TypeId) : ∀ j u, [Value.int q z][j]? = some u → (w.alloc (.cells #[.int q z] t)).cell? ((⟨w.heap.size, 0, none⟩ : Addr).add j) = some u := by
 intro j u hj
 match j, hj with
 | 0, hj => simp at hj; subst hj; simp [Addr.add]
theorem c2_one (q : IntKind) (z : Int) : ∀ u ∈ [Value.int q z], u.oneCell' = true := by
 intro u hu; simp at hu; subst hu; rfl
theorem ret_int {k : IntKind} {a b : Int} (h : a = b) : Ending.returned (.int k a) = .returned (.int k b) := by rw [h]
theorem ret_bool {a b : Bool} (h : a = b) : Ending.returned (.bool a) = .returned (.bool b) := by rw [h]
theorem is_any (p : Int) (w : World) : Calls Tryz.prog 109 #[.int .i64 p] w fun e w' => e = .returned (.bool (isPt p)) ∧ w = w' := by
 go_enter Tryz.func109, Tryz.ntmps109
 go_wp2
 all_goals (go_ret; refine ⟨ret_bool ?_, rfl⟩; rw [Bool.eq_iff_iff]; simp [isPt]; omega)
theorem isPoint_any (p : Int) (w : World) : Calls Tryz.prog 165 #[.int .i64 p] w fun e w' => e = .returned (.bool (isPt p)) ∧ w = w' := by
 go_enter Tryz.func165, Tryz.ntmps165
 go_wp2
 all_goals (go_ret; refine ⟨ret_bool ?_, rfl⟩; rw [Bool.eq_iff_iff]; simp [isPt]; omega)
def ReadOut (d : Nat × Nat) (w : World) (e : Ending) (w' : World) : Prop := e = .returned (.tuple #[.int .i64 (raw1 d), .int .i64 d.2]) ∧ w = w'
theorem ReadOut.bad {d : Nat × Nat} (w : World) (h : d = (65533, 1)) : ReadOut d w (.returned (.tuple #[.int .i64 (-1), .int .i64 1])) w := by subst h; exact ⟨rfl, rfl⟩
theorem ReadOut.good {d : Nat × Nat} (w : World) {p n : Int} (k : Nat) (h : d = (p.toNat, k)) (hp : 0 ≤ p) (hk : (k : Int) = n) (h1 : p ≠ 65533 ∨ k ≠ 1) : ReadOut d w (.returned (.tuple #[.int .i64 p, .int .i64 n])) w := by
 subst h hk
 refine ⟨?_, rfl⟩
 have : raw1 (p.toNat, k) = p := by unfold raw1; rw [if_neg (by simp only; omega)]; simp only; omega
 rw [this]
def at_ (t : ByteArray) (k : Nat) : Nat := (t.get! k).toNat
theorem at_lt (t : ByteArray) (k : Nat) : at_ t k < 256 := UInt8.toNat_lt _
theorem dec_at (t : ByteArray) : Utf8.decode t 0 = decodeN t.size (at_ t 0) (at_ t 1) (at_ t 2) (at_ t 3) := by rw [decode_at]; rfl
def accN (b : Int) (t : ByteArray) : Nat → Int
 | 0 => b
 | 1 => b
 | k + 2 => 64 * accN b t (k + 1) + (at_ t (k + 1) : Int) - 128
def ContN (t : ByteArray) (k : Nat) : Prop := ∀ j, 1 ≤ j → j < k → 128 ≤ at_ t j ∧ at_ t j < 192
theorem cont_more {t : ByteArray} {k : Nat} (h : ContN t k) (h1 : 128 ≤ at_ t k) (h2 : at_ t k < 192) : ContN t (k + 1) := fun j a b => by
 by_cases e : j = k
 ·subst e; exact ⟨h1, h2⟩
 ·exact h j a (by omega)
theorem acc_more (b : Int) (t : ByteArray) (k : Nat) (h : 1 ≤ k) : accN b t (k + 1) = 64 * accN b t k + (at_ t k : Int) - 128 := by
 obtain ⟨j, rfl⟩ : ∃ j, k = j + 1 := ⟨k - 1, by omega⟩
 rfl
theorem acc_bound (b : Int) (t : ByteArray) (h0 : 0 ≤ b) (h1 : b < 32) : ∀ k, k ≤ 4 → ContN t k → 0 ≤ accN b t k ∧ accN b t k < 10000000 := by
 intro k hk hc
 match k, hk, hc with
 | 0, _, _ => exact ⟨h0, by simp only [accN]; omega⟩
 | 1, _, _ => exact ⟨h0, by simp only [accN]; omega⟩
 | 2, _, hc => have a := hc 1 (by omega) (by omega); simp only [accN, Nat.zero_add]; omega
 | 3, _, hc => have a := hc 1 (by omega) (by omega); have a2 := hc 2 (by omega) (by omega); simp only [accN, Nat.zero_add, Nat.reduceAdd]; omega
 | 4, _, hc => have a := hc 1 (by omega) (by omega); have a2 := hc 2 (by omega) (by omega); have a3 := hc 3 (by omega) (by omega); simp only [accN, Nat.zero_add, Nat.reduceAdd]; omega
 | k + 5, hk, _ => omega
set_option maxHeartbeats 2000000 in
theorem plain_short2 (t : ByteArray) (h1 : 194 ≤ at_ t 0) (h2 : at_ t 0 < 224) (hs : t.size < 2) : Utf8.decode t 0 = (65533, 1) := by
 rw [dec_at]
 generalize at_ t 0 = b0 at *
 generalize at_ t 1 = b1
 generalize at_ t 2 = b2
 generalize at_ t 3 = b3
 unfold decodeN
 repeat' split
 all_goals first | rfl | (exfalso; omega)
set_option maxHeartbeats 2000000 in
theorem plain_bad2 (t : ByteArray) (k : Nat) (h1 : 194 ≤ at_ t 0) (h2 : at_ t 0 < 224) (h3 : 1 ≤ k) (h4 : k < 2) (hb : at_ t k < 128 ∨ 192 ≤ at_ t k) : Utf8.decode t 0 = (65533, 1) := by
 rw [dec_at]
 have hk : k = 1 ∨ k = 2 ∨ k = 3 := by omega
 have z1 := at_lt t 1
 have z2 := at_lt t 2
 have z3 := at_lt t 3
 rcases hk with rfl | rfl | rfl
 all_goals
  generalize at_ t 0 = b0 at *
  generalize at_ t 1 = b1 at *
  generalize at_ t 2 = b2 at *
  generalize at_ t 3 = b3 at *
  unfold decodeN
  repeat' split
  all_goals first | rfl | (exfalso; omega)
set_option maxHeartbeats 2000000 in
theorem plain_end2 (t : ByteArray) (h1 : 194 ≤ at_ t 0) (h2 : at_ t 0 < 224) (hs : 2 ≤ t.size) (hc : ContN t 2) :
    Utf8.decode t 0 = if accN ((at_ t 0 : Int) - 192) t 2 < 128 ∨ isPt (accN ((at_ t 0 : Int) - 192) t 2) = false then (65533, 1) else ((accN ((at_ t 0 : Int) - 192) t 2).toNat, 2) := by
 rw [dec_at]
 have c1 := hc 1 (by omega) (by omega)
 skip
 skip
 have EA : accN ((at_ t 0 : Int) - 192) t 2 = accN ((at_ t 0 : Int) - 192) t 2 := rfl
 conv at EA => rhs; simp only [accN, Nat.zero_add, Nat.reduceAdd]
 generalize accN ((at_ t 0 : Int) - 192) t 2 = A at *
 clear hc
 cases q : isPt A with
 | true =>
  have q1 := (isPt_iff A).1 q
  simp only [Bool.true_eq_false, or_false]
  generalize at_ t 0 = b0 at *
  generalize at_ t 1 = b1 at *
  generalize at_ t 2 = b2 at *
  generalize at_ t 3 = b3 at *
  unfold decodeN
  repeat' split
  all_goals first | rfl | (exfalso; omega) | (apply Prod.ext <;> simp only <;> omega)
 | false =>
  have q1 : ¬ (0 ≤ A ∧ A ≤ 1114111 ∧ (A < 55296 ∨ 57343 < A)) := fun h => by rw [(isPt_iff A).2 h] at q; cases q
  simp only [or_true, if_true]
  generalize at_ t 0 = b0 at *
  generalize at_ t 1 = b1 at *
  generalize at_ t 2 = b2 at *
  generalize at_ t 3 = b3 at *
  unfold decodeN
  repeat' split
  all_goals first | rfl | (exfalso; omega) | (apply Prod.ext <;> simp only <;> omega)
set_option maxHeartbeats 2000000 in
theorem plain_short3 (t : ByteArray) (h1 : 224 ≤ at_ t 0) (h2 : at_ t 0 < 240) (hs : t.size < 3) : Utf8.decode t 0 = (65533, 1) := by
 rw [dec_at]
 generalize at_ t 0 = b0 at *
 generalize at_ t 1 = b1
 generalize at_ t 2 = b2
 generalize at_ t 3 = b3
 unfold decodeN
 repeat' split
 all_goals first | rfl | (exfalso; omega)
set_option maxHeartbeats 2000000 in
theorem plain_bad3 (t : ByteArray) (k : Nat) (h1 : 224 ≤ at_ t 0) (h2 : at_ t 0 < 240) (h3 : 1 ≤ k) (h4 : k < 3) (hb : at_ t k < 128 ∨ 192 ≤ at_ t k) : Utf8.decode t 0 = (65533, 1) := by
 rw [dec_at]
 have hk : k = 1 ∨ k = 2 ∨ k = 3 := by omega
 have z1 := at_lt t 1
 have z2 := at_lt t 2
 have z3 := at_lt t 3
 rcases hk with rfl | rfl | rfl
 all_goals
  generalize at_ t 0 = b0 at *
  generalize at_ t 1 = b1 at *
  generalize at_ t 2 = b2 at *
  generalize at_ t 3 = b3 at *
  unfold decodeN
  repeat' split
  all_goals first | rfl | (exfalso; omega)
set_option maxHeartbeats 2000000 in
theorem plain_end3 (t : ByteArray) (h1 : 224 ≤ at_ t 0) (h2 : at_ t 0 < 240) (hs : 3 ≤ t.size) (hc : ContN t 3) :
    Utf8.decode t 0 = if accN ((at_ t 0 : Int) - 224) t 3 < 2048 ∨ isPt (accN ((at_ t 0 : Int) - 224) t 3) = false then (65533, 1) else ((accN ((at_ t 0 : Int) - 224) t 3).toNat, 3) := by
 rw [dec_at]
 have c1 := hc 1 (by omega) (by omega)
 have c2 := hc 2 (by omega) (by omega)
 skip
 have EA : accN ((at_ t 0 : Int) - 224) t 3 = accN ((at_ t 0 : Int) - 224) t 3 := rfl
 conv at EA => rhs; simp only [accN, Nat.zero_add, Nat.reduceAdd]
 generalize accN ((at_ t 0 : Int) - 224) t 3 = A at *
 clear hc
 cases q : isPt A with
 | true =>
  have q1 := (isPt_iff A).1 q
  simp only [Bool.true_eq_false, or_false]
  generalize at_ t 0 = b0 at *
  generalize at_ t 1 = b1 at *
  generalize at_ t 2 = b2 at *
  generalize at_ t 3 = b3 at *
  unfold decodeN
  repeat' split
  all_goals first | rfl | (exfalso; omega) | (apply Prod.ext <;> simp only <;> omega)
 | false =>
  have q1 : ¬ (0 ≤ A ∧ A ≤ 1114111 ∧ (A < 55296 ∨ 57343 < A)) := fun h => by rw [(isPt_iff A).2 h] at q; cases q
  simp only [or_true, if_true]
  generalize at_ t 0 = b0 at *
  generalize at_ t 1 = b1 at *
  generalize at_ t 2 = b2 at *
  generalize at_ t 3 = b3 at *
  unfold decodeN
  repeat' split
  all_goals first | rfl | (exfalso; omega) | (apply Prod.ext <;> simp only <;> omega)
set_option maxHeartbeats 2000000 in
theorem plain_short4 (t : ByteArray) (h1 : 240 ≤ at_ t 0) (h2 : at_ t 0 < 245) (hs : t.size < 4) : Utf8.decode t 0 = (65533, 1) := by
 rw [dec_at]
 generalize at_ t 0 = b0 at *
 generalize at_ t 1 = b1
 generalize at_ t 2 = b2
 generalize at_ t 3 = b3
 unfold decodeN
 repeat' split
 all_goals first | rfl | (exfalso; omega)
set_option maxHeartbeats 2000000 in
theorem plain_bad4 (t : ByteArray) (k : Nat) (h1 : 240 ≤ at_ t 0) (h2 : at_ t 0 < 245) (h3 : 1 ≤ k) (h4 : k < 4) (hb : at_ t k < 128 ∨ 192 ≤ at_ t k) : Utf8.decode t 0 = (65533, 1) := by
 rw [dec_at]
 have hk : k = 1 ∨ k = 2 ∨ k = 3 := by omega
 have z1 := at_lt t 1
 have z2 := at_lt t 2
 have z3 := at_lt t 3
 rcases hk with rfl | rfl | rfl
 all_goals
  generalize at_ t 0 = b0 at *
  generalize at_ t 1 = b1 at *
  generalize at_ t 2 = b2 at *
  generalize at_ t 3 = b3 at *
  unfold decodeN
  repeat' split
  all_goals first | rfl | (exfalso; omega)
set_option maxHeartbeats 2000000 in
theorem plain_end4 (t : ByteArray) (h1 : 240 ≤ at_ t 0) (h2 : at_ t 0 < 245) (hs : 4 ≤ t.size) (hc : ContN t 4) :
    Utf8.decode t 0 = if accN ((at_ t 0 : Int) - 240) t 4 < 65536 ∨ isPt (accN ((at_ t 0 : Int) - 240) t 4) = false then (65533, 1) else ((accN ((at_ t 0 : Int) - 240) t 4).toNat, 4) := by
 rw [dec_at]
 have c1 := hc 1 (by omega) (by omega)
 have c2 := hc 2 (by omega) (by omega)
 have c3 := hc 3 (by omega) (by omega)
 have EA : accN ((at_ t 0 : Int) - 240) t 4 = accN ((at_ t 0 : Int) - 240) t 4 := rfl
 conv at EA => rhs; simp only [accN, Nat.zero_add, Nat.reduceAdd]
 generalize accN ((at_ t 0 : Int) - 240) t 4 = A at *
 clear hc
 cases q : isPt A with
 | true =>
  have q1 := (isPt_iff A).1 q
  simp only [Bool.true_eq_false, or_false]
  generalize at_ t 0 = b0 at *
  generalize at_ t 1 = b1 at *
  generalize at_ t 2 = b2 at *
  generalize at_ t 3 = b3 at *
  unfold decodeN
  repeat' split
  all_goals first | rfl | (exfalso; omega) | (apply Prod.ext <;> simp only <;> omega)
 | false =>
  have q1 : ¬ (0 ≤ A ∧ A ≤ 1114111 ∧ (A < 55296 ∨ 57343 < A)) := fun h => by rw [(isPt_iff A).2 h] at q; cases q
  simp only [or_true, if_true]
  generalize at_ t 0 = b0 at *
  generalize at_ t 1 = b1 at *
  generalize at_ t 2 = b2 at *
  generalize at_ t 3 = b3 at *
  unfold decodeN
  repeat' split
  all_goals first | rfl | (exfalso; omega) | (apply Prod.ext <;> simp only <;> omega)
theorem plain_low (t : ByteArray) (h : at_ t 0 < 128) : Utf8.decode t 0 = (at_ t 0, 1) := by
 rw [dec_at]; simp [decodeN, h]
set_option maxHeartbeats 2000000 in
theorem plain_none (t : ByteArray) (h0 : 128 ≤ at_ t 0) (h : at_ t 0 < 194 ∨ 245 ≤ at_ t 0) : Utf8.decode t 0 = (65533, 1) := by
 rw [dec_at]
 have z := at_lt t 0
 generalize at_ t 0 = b0 at *
 generalize at_ t 1 = b1
 generalize at_ t 2 = b2
 generalize at_ t 3 = b3
 unfold decodeN
 repeat' split
 all_goals first | rfl | (exfalso; omega)
theorem get_at {t : ByteArray} {k : Nat} {x : UInt8} (hk : k < t.size) (h : t[k] = x) : x.toNat = at_ t k := by
 subst h
 unfold at_
 cases t with
 | mk d => exact congrArg UInt8.toNat (getElem!_pos d k hk).symm
theorem read_low (t : ByteArray) (b0 : UInt8) (w : World) (h0 : 0 < t.size) (hb : t[0] = b0) (hlt : (b0.toNat : Int) < 128) :
    Calls Tryz.prog 88 #[.string t] w (ReadOut (Utf8.decode t 0) w) := by
 have H := hid (plain_low t (by rw [← get_at h0 hb]; omega))
 have G := hid (get_at h0 hb)
 go_enter Tryz.func88, Tryz.ntmps88
 go_wp2
 go_ret2
 exact ReadOut.good _ 1 (by rw [H.out, ← G.out]; simp) (by omega) rfl (by omega)
set_option maxRecDepth 100000 in
theorem read_none (t : ByteArray) (b0 : UInt8) (w : World) (h0 : 0 < t.size) (hb : t[0] = b0) (h1 : 128 ≤ (b0.toNat : Int)) (h2 : (b0.toNat : Int) < 194) :
    Calls Tryz.prog 88 #[.string t] w (ReadOut (Utf8.decode t 0) w) := by
 have H := hid (plain_none t (by rw [← get_at h0 hb]; omega) (by rw [← get_at h0 hb]; omega))
 go_enter Tryz.func88, Tryz.ntmps88
 go_wp2
 go_ret2
 exact ReadOut.bad _ H.out
set_option maxRecDepth 100000 in
theorem read_over (t : ByteArray) (b0 : UInt8) (w : World) (h0 : 0 < t.size) (hb : t[0] = b0) (h1 : 245 ≤ (b0.toNat : Int)) (h2 : (b0.toNat : Int) < 256) :
    Calls Tryz.prog 88 #[.string t] w (ReadOut (Utf8.decode t 0) w) := by
 have H := hid (plain_none t (by rw [← get_at h0 hb]; omega) (by rw [← get_at h0 hb]; omega))
 go_enter Tryz.func88, Tryz.ntmps88
 go_wp2
 go_ret2
 exact ReadOut.bad _ H.out
set_option maxRecDepth 100000 in
theorem read_short2 (t : ByteArray) (b0 : UInt8) (w : World) (h0 : 0 < t.size) (hb : t[0] = b0) (h1 : 194 ≤ (b0.toNat : Int)) (h2 : (b0.toNat : Int) < 224) (hs : (t.size : Int) < 2) :
    Calls Tryz.prog 88 #[.string t] w (ReadOut (Utf8.decode t 0) w) := by
 have H := hid (plain_short2 t (by rw [← get_at h0 hb]; omega) (by rw [← get_at h0 hb]; omega) (by omega))
 go_enter Tryz.func88, Tryz.ntmps88
 go_wp2
 go_ret2
 exact ReadOut.bad _ H.out
set_option maxRecDepth 100000 in
set_option maxHeartbeats 1000000 in
theorem read_long2 (t : ByteArray) (b0 : UInt8) (w : World) (h0 : 0 < t.size) (hb : t[0] = b0) (h1 : 194 ≤ (b0.toNat : Int)) (h2 : (b0.toNat : Int) < 224) (hs : 2 ≤ (t.size : Int)) (hm : (t.size : Int) ≤ 9223372036854775807) :
    Calls Tryz.prog 88 #[.string t] w (ReadOut (Utf8.decode t 0) w) := by
 have G := hid (get_at h0 hb)
 have g1 : 194 ≤ at_ t 0 := by rw [← get_at h0 hb]; omega
 have g2 : at_ t 0 < 224 := by rw [← get_at h0 hb]; omega
 go_enter Tryz.func88, Tryz.ntmps88
 go_wp2
 go_loop [4, 7] (fun b i => ∃ k : Nat, 1 ≤ k ∧ k ≤ 2 ∧ i = .int .i64 k ∧ Hid (ContN t k) ∧ b = .int .i64 (accN ((b0.toNat : Int) - 192) t k)) (fun _ i => 2 - (intOf i).toNat)
 case atStart => exact ⟨1, Nat.le_refl _, by omega, rfl, (fun j a b => by omega), rfl⟩
 case round =>
  obtain ⟨k, hk1, hk2, rfl, hC, rfl⟩ := hrel
  have hbd := acc_bound ((b0.toNat : Int) - 192) t (by omega) (by omega) k (by omega) hC.out
  obtain ⟨A, HA⟩ : ∃ A, accN ((b0.toNat : Int) - 192) t k = A := ⟨_, rfl⟩
  rw [HA] at hbd ⊢
  obtain ⟨hA0, hA1⟩ := hbd
  have HA := hid HA
  by_cases hlt : k < 2
  ·have hkt : k < t.size := by omega
   obtain ⟨x, hx⟩ : ∃ x, t[k] = x := ⟨_, rfl⟩
   have hx256 : (x.toNat : Int) < 256 := by have := UInt8.toNat_lt x; omega
   have GX := hid (get_at hkt hx)
   by_cases hok : 128 ≤ (x.toNat : Int) ∧ (x.toNat : Int) < 192
   ·obtain ⟨o1, o2⟩ := hok
    go_wp2
    go_round
    case rel =>
     refine ⟨k + 1, by omega, by omega, by go_num, cont_more hC.out (by have := GX.out; omega) (by have := GX.out; omega), ?_⟩
     rw [acc_more _ _ _ hk1, HA.out, ← GX.out]
    case measure => simp [intOf]; omega
   ·have H := hid (plain_bad2 t k g1 g2 hk1 hlt (by rw [← get_at hkt hx]; omega))
    by_cases o1 : (x.toNat : Int) < 128
    ·go_wp2
     go_ret2
     exact ReadOut.bad _ H.out
    ·have o2 : 192 ≤ (x.toNat : Int) := by omega
     clear hok
     go_wp2
     go_ret2
     exact ReadOut.bad _ H.out
  ·have ek : k = 2 := by omega
   subst ek
   have E := hid (plain_end2 t g1 g2 (by omega) hC.out)
   rw [← G.out] at E
   have E := hid (show Utf8.decode t 0 = if A < 128 ∨ isPt A = false then (65533, 1) else (A.toNat, 2) by rw [← HA.out]; exact E.out)
   by_cases q1 : A < 128
   ·go_wp2_with (go_at_call 109; refine (is_any _ _).mono ?_; rintro e w' ⟨rfl, rfl⟩)
    go_ret2
    exact ReadOut.bad _ (by rw [E.out, if_pos (.inl q1)])
   ·cases q2 : isPt A with
    | false =>
     go_wp2_with (go_at_call 109; refine (is_any _ _).mono ?_; rintro e w' ⟨rfl, rfl⟩)
     go_ret2
     exact ReadOut.bad _ (by rw [E.out, if_pos (.inr q2)])
    | true =>
     go_wp2_with (go_at_call 109; refine (is_any _ _).mono ?_; rintro e w' ⟨rfl, rfl⟩)
     go_ret2
     exact ReadOut.good _ 2 (by rw [E.out, if_neg (by rw [q2]; simp; omega)]) (by omega) rfl (by omega)
set_option maxRecDepth 100000 in
theorem read_short3 (t : ByteArray) (b0 : UInt8) (w : World) (h0 : 0 < t.size) (hb : t[0] = b0) (h1 : 224 ≤ (b0.toNat : Int)) (h2 : (b0.toNat : Int) < 240) (hs : (t.size : Int) < 3) :
    Calls Tryz.prog 88 #[.string t] w (ReadOut (Utf8.decode t 0) w) := by
 have H := hid (plain_short3 t (by rw [← get_at h0 hb]; omega) (by rw [← get_at h0 hb]; omega) (by omega))
 go_enter Tryz.func88, Tryz.ntmps88
 go_wp2
 go_ret2
 exact ReadOut.bad _ H.out
set_option maxRecDepth 100000 in
set_option maxHeartbeats 1000000 in
theorem read_long3 (t : ByteArray) (b0 : UInt8) (w : World) (h0 : 0 < t.size) (hb : t[0] = b0) (h1 : 224 ≤ (b0.toNat : Int)) (h2 : (b0.toNat : Int) < 240) (hs : 3 ≤ (t.size : Int)) (hm : (t.size : Int) ≤ 9223372036854775807) :
    Calls Tryz.prog 88 #[.string t] w (ReadOut (Utf8.decode t 0) w) := by
 have G := hid (get_at h0 hb)
 have g1 : 224 ≤ at_ t 0 := by rw [← get_at h0 hb]; omega
 have g2 : at_ t 0 < 240 := by rw [← get_at h0 hb]; omega
 go_enter Tryz.func88, Tryz.ntmps88
 go_wp2
 go_loop [4, 7] (fun b i => ∃ k : Nat, 1 ≤ k ∧ k ≤ 3 ∧ i = .int .i64 k ∧ Hid (ContN t k) ∧ b = .int .i64 (accN ((b0.toNat : Int) - 224) t k)) (fun _ i => 3 - (intOf i).toNat)
 case atStart => exact ⟨1, Nat.le_refl _, by omega, rfl, (fun j a b => by omega), rfl⟩
 case round =>
  obtain ⟨k, hk1, hk2, rfl, hC, rfl⟩ := hrel
  have hbd := acc_bound ((b0.toNat : Int) - 224) t (by omega) (by omega) k (by omega) hC.out
  obtain ⟨A, HA⟩ : ∃ A, accN ((b0.toNat : Int) - 224) t k = A := ⟨_, rfl⟩
  rw [HA] at hbd ⊢
  obtain ⟨hA0, hA1⟩ := hbd
  have HA := hid HA
  by_cases hlt : k < 3
  ·have hkt : k < t.size := by omega
   obtain ⟨x, hx⟩ : ∃ x, t[k] = x := ⟨_, rfl⟩
   have hx256 : (x.toNat : Int) < 256 := by have := UInt8.toNat_lt x; omega
   have GX := hid (get_at hkt hx)
   by_cases hok : 128 ≤ (x.toNat : Int) ∧ (x.toNat : Int) < 192
   ·obtain ⟨o1, o2⟩ := hok
    go_wp2
    go_round
    case rel =>
     refine ⟨k + 1, by omega, by omega, by go_num, cont_more hC.out (by have := GX.out; omega) (by have := GX.out; omega), ?_⟩
     rw [acc_more _ _ _ hk1, HA.out, ← GX.out]
    case measure => simp [intOf]; omega
   ·have H := hid (plain_bad3 t k g1 g2 hk1 hlt (by rw [← get_at hkt hx]; omega))
    by_cases o1 : (x.toNat : Int) < 128
    ·go_wp2
     go_ret2
     exact ReadOut.bad _ H.out
    ·have o2 : 192 ≤ (x.toNat : Int) := by omega
     clear hok
     go_wp2
     go_ret2
     exact ReadOut.bad _ H.out
  ·have ek : k = 3 := by omega
   subst ek
   have E := hid (plain_end3 t g1 g2 (by omega) hC.out)
   rw [← G.out] at E
   have E := hid (show Utf8.decode t 0 = if A < 2048 ∨ isPt A = false then (65533, 1) else (A.toNat, 3) by rw [← HA.out]; exact E.out)
   by_cases q1 : A < 2048
   ·go_wp2_with (go_at_call 109; refine (is_any _ _).mono ?_; rintro e w' ⟨rfl, rfl⟩)
    go_ret2
    exact ReadOut.bad _ (by rw [E.out, if_pos (.inl q1)])
   ·cases q2 : isPt A with
    | false =>
     go_wp2_with (go_at_call 109; refine (is_any _ _).mono ?_; rintro e w' ⟨rfl, rfl⟩)
     go_ret2
     exact ReadOut.bad _ (by rw [E.out, if_pos (.inr q2)])
    | true =>
     go_wp2_with (go_at_call 109; refine (is_any _ _).mono ?_; rintro e w' ⟨rfl, rfl⟩)
     go_ret2
     exact ReadOut.good _ 3 (by rw [E.out, if_neg (by rw [q2]; simp; omega)]) (by omega) rfl (by omega)
set_option maxRecDepth 100000 in
theorem read_short4 (t : ByteArray) (b0 : UInt8) (w : World) (h0 : 0 < t.size) (hb : t[0] = b0) (h1 : 240 ≤ (b0.toNat : Int)) (h2 : (b0.toNat : Int) < 245) (hs : (t.size : Int) < 4) :
    Calls Tryz.prog 88 #[.string t] w (ReadOut (Utf8.decode t 0) w) := by
 have H := hid (plain_short4 t (by rw [← get_at h0 hb]; omega) (by rw [← get_at h0 hb]; omega) (by omega))
 go_enter Tryz.func88, Tryz.ntmps88
 go_wp2
 go_ret2
 exact ReadOut.bad _ H.out
set_option maxRecDepth 100000 in
set_option maxHeartbeats 1000000 in
theorem read_long4 (t : ByteArray) (b0 : UInt8) (w : World) (h0 : 0 < t.size) (hb : t[0] = b0) (h1 : 240 ≤ (b0.toNat : Int)) (h2 : (b0.toNat : Int) < 245) (hs : 4 ≤ (t.size : Int)) (hm : (t.size : Int) ≤ 9223372036854775807) :
    Calls Tryz.prog 88 #[.string t] w (ReadOut (Utf8.decode t 0) w) := by
 have G := hid (get_at h0 hb)
 have g1 : 240 ≤ at_ t 0 := by rw [← get_at h0 hb]; omega
 have g2 : at_ t 0 < 245 := by rw [← get_at h0 hb]; omega
 go_enter Tryz.func88, Tryz.ntmps88
 go_wp2
 go_loop [4, 7] (fun b i => ∃ k : Nat, 1 ≤ k ∧ k ≤ 4 ∧ i = .int .i64 k ∧ Hid (ContN t k) ∧ b = .int .i64 (accN ((b0.toNat : Int) - 240) t k)) (fun _ i => 4 - (intOf i).toNat)
 case atStart => exact ⟨1, Nat.le_refl _, by omega, rfl, (fun j a b => by omega), rfl⟩
 case round =>
  obtain ⟨k, hk1, hk2, rfl, hC, rfl⟩ := hrel
  have hbd := acc_bound ((b0.toNat : Int) - 240) t (by omega) (by omega) k (by omega) hC.out
  obtain ⟨A, HA⟩ : ∃ A, accN ((b0.toNat : Int) - 240) t k = A := ⟨_, rfl⟩
  rw [HA] at hbd ⊢
  obtain ⟨hA0, hA1⟩ := hbd
  have HA := hid HA
  by_cases hlt : k < 4
  ·have hkt : k < t.size := by omega
   obtain ⟨x, hx⟩ : ∃ x, t[k] = x := ⟨_, rfl⟩
   have hx256 : (x.toNat : Int) < 256 := by have := UInt8.toNat_lt x; omega
   have GX := hid (get_at hkt hx)
   by_cases hok : 128 ≤ (x.toNat : Int) ∧ (x.toNat : Int) < 192
   ·obtain ⟨o1, o2⟩ := hok
    go_wp2
    go_round
    case rel =>
     refine ⟨k + 1, by omega, by omega, by go_num, cont_more hC.out (by have := GX.out; omega) (by have := GX.out; omega), ?_⟩
     rw [acc_more _ _ _ hk1, HA.out, ← GX.out]
    case measure => simp [intOf]; omega
   ·have H := hid (plain_bad4 t k g1 g2 hk1 hlt (by rw [← get_at hkt hx]; omega))
    by_cases o1 : (x.toNat : Int) < 128
    ·go_wp2
     go_ret2
     exact ReadOut.bad _ H.out
    ·have o2 : 192 ≤ (x.toNat : Int) := by omega
     clear hok
     go_wp2
     go_ret2
     exact ReadOut.bad _ H.out
  ·have ek : k = 4 := by omega
   subst ek
   have E := hid (plain_end4 t g1 g2 (by omega) hC.out)
   rw [← G.out] at E
   have E := hid (show Utf8.decode t 0 = if A < 65536 ∨ isPt A = false then (65533, 1) else (A.toNat, 4) by rw [← HA.out]; exact E.out)
   by_cases q1 : A < 65536
   ·go_wp2_with (go_at_call 109; refine (is_any _ _).mono ?_; rintro e w' ⟨rfl, rfl⟩)
    go_ret2
    exact ReadOut.bad _ (by rw [E.out, if_pos (.inl q1)])
   ·cases q2 : isPt A with
    | false =>
     go_wp2_with (go_at_call 109; refine (is_any _ _).mono ?_; rintro e w' ⟨rfl, rfl⟩)
     go_ret2
     exact ReadOut.bad _ (by rw [E.out, if_pos (.inr q2)])
    | true =>
     go_wp2_with (go_at_call 109; refine (is_any _ _).mono ?_; rintro e w' ⟨rfl, rfl⟩)
     go_ret2
     exact ReadOut.good _ 4 (by rw [E.out, if_neg (by rw [q2]; simp; omega)]) (by omega) rfl (by omega)
theorem read_any (t : ByteArray) (w : World) (h0 : 0 < t.size) (hm : t.size ≤ 9223372036854775807) : Calls Tryz.prog 88 #[.string t] w (ReadOut (Utf8.decode t 0) w) := by
 obtain ⟨b0, hb⟩ : ∃ b0, t[0] = b0 := ⟨_, rfl⟩
 have hz := UInt8.toNat_lt b0
 by_cases c1 : b0.toNat < 128
 ·exact read_low t b0 w h0 hb (by omega)
 by_cases c2 : b0.toNat < 194
 ·exact read_none t b0 w h0 hb (by omega) (by omega)
 by_cases c3 : 245 ≤ b0.toNat
 ·exact read_over t b0 w h0 hb (by omega) (by omega)
 by_cases c4 : b0.toNat < 224
 ·by_cases s : t.size < 2
  ·exact read_short2 t b0 w h0 hb (by omega) (by omega) (by omega)
  ·exact read_long2 t b0 w h0 hb (by omega) (by omega) (by omega) (by omega)
 by_cases c5 : b0.toNat < 240
 ·by_cases s : t.size < 3
  ·exact read_short3 t b0 w h0 hb (by omega) (by omega) (by omega)
  ·exact read_long3 t b0 w h0 hb (by omega) (by omega) (by omega) (by omega)
 ·by_cases s : t.size < 4
  ·exact read_short4 t b0 w h0 hb (by omega) (by omega) (by omega)
  ·exact read_long4 t b0 w h0 hb (by omega) (by omega) (by omega) (by omega)
end Go.Proofs.YtklcjimmbkpbdaaGreatDoor
