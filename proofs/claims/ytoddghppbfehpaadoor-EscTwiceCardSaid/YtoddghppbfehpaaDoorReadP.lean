/-
  The document's reader of one code point answers what the decoder says, -1 and 1 at a bad byte. Conditions: the bytes are not empty.
-/
import Derived.Test.YtoddghppbfehpaaDoorWords
namespace Go.Proofs.YtoddghppbfehpaaDoor
open Go.RowKit Go.Lib

theorem ret_bool {a b : Bool} (h : a = b) : Ending.returned (.bool a) = .returned (.bool b) := by rw [h]
theorem is_any (p : Int) (w : World) : Calls Tryd.prog 40 #[.int .i64 p] w fun e w' => e = .returned (.bool (isPt p)) ∧ w = w' := by
  go_enter Tryd.func40, Tryd.ntmps40
  go_wp2
  all_goals (go_ret; refine ⟨ret_bool ?_, rfl⟩; rw [Bool.eq_iff_iff]; simp [isPt]; omega)
theorem isPoint_any (p : Int) (w : World) : Calls Tryd.prog 72 #[.int .i64 p] w fun e w' => e = .returned (.bool (isPt p)) ∧ w = w' := by
  go_enter Tryd.func72, Tryd.ntmps72
  go_wp2
  all_goals (go_ret; refine ⟨ret_bool ?_, rfl⟩; rw [Bool.eq_iff_iff]; simp [isPt]; omega)

/-- What Read answers. -/
def ReadOut (d : Nat × Nat) (w : World) (e : Ending) (w' : World) : Prop := e = .returned (.tuple #[.int .i64 (raw1 d), .int .i64 d.2]) ∧ w = w'
theorem ReadOut.bad {d : Nat × Nat} (w : World) (h : d = (65533, 1)) : ReadOut d w (.returned (.tuple #[.int .i64 (-1), .int .i64 1])) w := by subst h; exact ⟨rfl, rfl⟩
theorem ReadOut.good {d : Nat × Nat} (w : World) {p n : Int} (k : Nat) (h : d = (p.toNat, k)) (hp : 0 ≤ p) (hk : (k : Int) = n) (h1 : p ≠ 65533 ∨ k ≠ 1) : ReadOut d w (.returned (.tuple #[.int .i64 p, .int .i64 n])) w := by
  subst h hk
  refine ⟨?_, rfl⟩
  have : raw1 (p.toNat, k) = p := by unfold raw1; rw [if_neg (by simp only; omega)]; simp only; omega
  rw [this]
/-- The number at place k of the bytes. -/
def at_ (t : ByteArray) (k : Nat) : Nat := (t.get! k).toNat
theorem at_lt (t : ByteArray) (k : Nat) : at_ t k < 256 := UInt8.toNat_lt _
theorem dec_at (t : ByteArray) : Utf8.decode t 0 = decodeN t.size (at_ t 0) (at_ t 1) (at_ t 2) (at_ t 3) := by rw [decode_at]; rfl
/-- What has been read behind k bytes. -/
def accN (b : Int) (t : ByteArray) : Nat → Int
  | 0 => b
  | 1 => b
  | k + 2 => 64 * accN b t (k + 1) + (at_ t (k + 1) : Int) - 128
def ContN (t : ByteArray) (k : Nat) : Prop := ∀ j, 1 ≤ j → j < k → 128 ≤ at_ t j ∧ at_ t j < 192
theorem cont_more {t : ByteArray} {k : Nat} (h : ContN t k) (h1 : 128 ≤ at_ t k) (h2 : at_ t k < 192) : ContN t (k + 1) := fun j a b => by
  by_cases e : j = k
  · subst e; exact ⟨h1, h2⟩
  · exact h j a (by omega)
theorem acc_more (b : Int) (t : ByteArray) (k : Nat) (h : 1 ≤ k) : accN b t (k + 1) = 64 * accN b t k + (at_ t k : Int) - 128 := by
  obtain ⟨j, rfl⟩ : ∃ j, k = j + 1 := ⟨k - 1, by omega⟩
  rfl
theorem acc_bound (b : Int) (t : ByteArray) (h0 : 0 ≤ b) (h1 : b < 32) : ∀ k, k ≤ 4 → ContN t k → 0 ≤ accN b t k ∧ accN b t k < 10000000 := by
  intro k hk hc
  match k, hk, hc with
  | 0, _, _ => exact ⟨h0, by simp only [accN]; omega⟩
  | 1, _, _ => exact ⟨h0, by simp only [accN]; omega⟩
  | 2, _, hc => have a := hc 1 (by omega) (by omega); simp only [accN, Nat.zero_add]; omega
  | 3, _, hc => have a := hc 1 (by omega) (by omega); have a2 := hc 2 (by omega) (by omega); simp only [accN, Nat.zero_add, Nat.reduceAdd]; omega
  | 4, _, hc => have a := hc 1 (by omega) (by omega); have a2 := hc 2 (by omega) (by omega); have a3 := hc 3 (by omega) (by omega); simp only [accN, Nat.zero_add, Nat.reduceAdd]; omega
  | k + 5, hk, _ => omega

set_option maxHeartbeats 2000000 in
theorem plain_short2 (t : ByteArray) (h1 : 194 ≤ at_ t 0) (h2 : at_ t 0 < 224) (hs : t.size < 2) : Utf8.decode t 0 = (65533, 1) := by
  rw [dec_at]
  generalize at_ t 0 = b0 at *
  generalize at_ t 1 = b1
  generalize at_ t 2 = b2
  generalize at_ t 3 = b3
  unfold decodeN
  repeat' split
  all_goals first | rfl | (exfalso; omega)
set_option maxHeartbeats 2000000 in
theorem plain_bad2 (t : ByteArray) (k : Nat) (h1 : 194 ≤ at_ t 0) (h2 : at_ t 0 < 224) (h3 : 1 ≤ k) (h4 : k < 2) (hb : at_ t k < 128 ∨ 192 ≤ at_ t k) : Utf8.decode t 0 = (65533, 1) := by
  rw [dec_at]
  have hk : k = 1 ∨ k = 2 ∨ k = 3 := by omega
  have z1 := at_lt t 1
  have z2 := at_lt t 2
  have z3 := at_lt t 3
  rcases hk with rfl | rfl | rfl
  all_goals
    generalize at_ t 0 = b0 at *
    generalize at_ t 1 = b1 at *
    generalize at_ t 2 = b2 at *
    generalize at_ t 3 = b3 at *
    unfold decodeN
    repeat' split
    all_goals first | rfl | (exfalso; omega)
set_option maxHeartbeats 2000000 in
theorem plain_end2 (t : ByteArray) (h1 : 194 ≤ at_ t 0) (h2 : at_ t 0 < 224) (hs : 2 ≤ t.size) (hc : ContN t 2) :
    Utf8.decode t 0 = if accN ((at_ t 0 : Int) - 192) t 2 < 128 ∨ isPt (accN ((at_ t 0 : Int) - 192) t 2) = false then (65533, 1) else ((accN ((at_ t 0 : Int) - 192) t 2).toNat, 2) := by
  rw [dec_at]
  have c1 := hc 1 (by omega) (by omega)
  skip
  skip
  have EA : accN ((at_ t 0 : Int) - 192) t 2 = accN ((at_ t 0 : Int) - 192) t 2 := rfl
  conv at EA => rhs; simp only [accN, Nat.zero_add, Nat.reduceAdd]
  generalize accN ((at_ t 0 : Int) - 192) t 2 = A at *
  clear hc
  cases q : isPt A with
  | true =>
    have q1 := (isPt_iff A).1 q
    simp only [Bool.true_eq_false, or_false]
    generalize at_ t 0 = b0 at *
    generalize at_ t 1 = b1 at *
    generalize at_ t 2 = b2 at *
    generalize at_ t 3 = b3 at *
    unfold decodeN
    repeat' split
    all_goals first | rfl | (exfalso; omega) | (apply Prod.ext <;> simp only <;> omega)
  | false =>
    have q1 : ¬ (0 ≤ A ∧ A ≤ 1114111 ∧ (A < 55296 ∨ 57343 < A)) := fun h => by rw [(isPt_iff A).2 h] at q; cases q
    simp only [or_true, if_true]
    generalize at_ t 0 = b0 at *
    generalize at_ t 1 = b1 at *
    generalize at_ t 2 = b2 at *
    generalize at_ t 3 = b3 at *
    unfold decodeN
    repeat' split
    all_goals first | rfl | (exfalso; omega) | (apply Prod.ext <;> simp only <;> omega)

set_option maxHeartbeats 2000000 in
theorem plain_short3 (t : ByteArray) (h1 : 224 ≤ at_ t 0) (h2 : at_ t 0 < 240) (hs : t.size < 3) : Utf8.decode t 0 = (65533, 1) := by
  rw [dec_at]
  generalize at_ t 0 = b0 at *
  generalize at_ t 1 = b1
  generalize at_ t 2 = b2
  generalize at_ t 3 = b3
  unfold decodeN
  repeat' split
  all_goals first | rfl | (exfalso; omega)
set_option maxHeartbeats 2000000 in
theorem plain_bad3 (t : ByteArray) (k : Nat) (h1 : 224 ≤ at_ t 0) (h2 : at_ t 0 < 240) (h3 : 1 ≤ k) (h4 : k < 3) (hb : at_ t k < 128 ∨ 192 ≤ at_ t k) : Utf8.decode t 0 = (65533, 1) := by
  rw [dec_at]
  have hk : k = 1 ∨ k = 2 ∨ k = 3 := by omega
  have z1 := at_lt t 1
  have z2 := at_lt t 2
  have z3 := at_lt t 3
  rcases hk with rfl | rfl | rfl
  all_goals
    generalize at_ t 0 = b0 at *
    generalize at_ t 1 = b1 at *
    generalize at_ t 2 = b2 at *
    generalize at_ t 3 = b3 at *
    unfold decodeN
    repeat' split
    all_goals first | rfl | (exfalso; omega)
set_option maxHeartbeats 2000000 in
theorem plain_end3 (t : ByteArray) (h1 : 224 ≤ at_ t 0) (h2 : at_ t 0 < 240) (hs : 3 ≤ t.size) (hc : ContN t 3) :
    Utf8.decode t 0 = if accN ((at_ t 0 : Int) - 224) t 3 < 2048 ∨ isPt (accN ((at_ t 0 : Int) - 224) t 3) = false then (65533, 1) else ((accN ((at_ t 0 : Int) - 224) t 3).toNat, 3) := by
  rw [dec_at]
  have c1 := hc 1 (by omega) (by omega)
  have c2 := hc 2 (by omega) (by omega)
  skip
  have EA : accN ((at_ t 0 : Int) - 224) t 3 = accN ((at_ t 0 : Int) - 224) t 3 := rfl
  conv at EA => rhs; simp only [accN, Nat.zero_add, Nat.reduceAdd]
  generalize accN ((at_ t 0 : Int) - 224) t 3 = A at *
  clear hc
  cases q : isPt A with
  | true =>
    have q1 := (isPt_iff A).1 q
    simp only [Bool.true_eq_false, or_false]
    generalize at_ t 0 = b0 at *
    generalize at_ t 1 = b1 at *
    generalize at_ t 2 = b2 at *
    generalize at_ t 3 = b3 at *
    unfold decodeN
    repeat' split
    all_goals first | rfl | (exfalso; omega) | (apply Prod.ext <;> simp only <;> omega)
  | false =>
    have q1 : ¬ (0 ≤ A ∧ A ≤ 1114111 ∧ (A < 55296 ∨ 57343 < A)) := fun h => by rw [(isPt_iff A).2 h] at q; cases q
    simp only [or_true, if_true]
    generalize at_ t 0 = b0 at *
    generalize at_ t 1 = b1 at *
    generalize at_ t 2 = b2 at *
    generalize at_ t 3 = b3 at *
    unfold decodeN
    repeat' split
    all_goals first | rfl | (exfalso; omega) | (apply Prod.ext <;> simp only <;> omega)

set_option maxHeartbeats 2000000 in
theorem plain_short4 (t : ByteArray) (h1 : 240 ≤ at_ t 0) (h2 : at_ t 0 < 245) (hs : t.size < 4) : Utf8.decode t 0 = (65533, 1) := by
  rw [dec_at]
  generalize at_ t 0 = b0 at *
  generalize at_ t 1 = b1
  generalize at_ t 2 = b2
  generalize at_ t 3 = b3
  unfold decodeN
  repeat' split
  all_goals first | rfl | (exfalso; omega)
set_option maxHeartbeats 2000000 in
theorem plain_bad4 (t : ByteArray) (k : Nat) (h1 : 240 ≤ at_ t 0) (h2 : at_ t 0 < 245) (h3 : 1 ≤ k) (h4 : k < 4) (hb : at_ t k < 128 ∨ 192 ≤ at_ t k) : Utf8.decode t 0 = (65533, 1) := by
  rw [dec_at]
  have hk : k = 1 ∨ k = 2 ∨ k = 3 := by omega
  have z1 := at_lt t 1
  have z2 := at_lt t 2
  have z3 := at_lt t 3
  rcases hk with rfl | rfl | rfl
  all_goals
    generalize at_ t 0 = b0 at *
    generalize at_ t 1 = b1 at *
    generalize at_ t 2 = b2 at *
    generalize at_ t 3 = b3 at *
    unfold decodeN
    repeat' split
    all_goals first | rfl | (exfalso; omega)
set_option maxHeartbeats 2000000 in
theorem plain_end4 (t : ByteArray) (h1 : 240 ≤ at_ t 0) (h2 : at_ t 0 < 245) (hs : 4 ≤ t.size) (hc : ContN t 4) :
    Utf8.decode t 0 = if accN ((at_ t 0 : Int) - 240) t 4 < 65536 ∨ isPt (accN ((at_ t 0 : Int) - 240) t 4) = false then (65533, 1) else ((accN ((at_ t 0 : Int) - 240) t 4).toNat, 4) := by
  rw [dec_at]
  have c1 := hc 1 (by omega) (by omega)
  have c2 := hc 2 (by omega) (by omega)
  have c3 := hc 3 (by omega) (by omega)
  have EA : accN ((at_ t 0 : Int) - 240) t 4 = accN ((at_ t 0 : Int) - 240) t 4 := rfl
  conv at EA => rhs; simp only [accN, Nat.zero_add, Nat.reduceAdd]
  generalize accN ((at_ t 0 : Int) - 240) t 4 = A at *
  clear hc
  cases q : isPt A with
  | true =>
    have q1 := (isPt_iff A).1 q
    simp only [Bool.true_eq_false, or_false]
    generalize at_ t 0 = b0 at *
    generalize at_ t 1 = b1 at *
    generalize at_ t 2 = b2 at *
    generalize at_ t 3 = b3 at *
    unfold decodeN
    repeat' split
    all_goals first | rfl | (exfalso; omega) | (apply Prod.ext <;> simp only <;> omega)
  | false =>
    have q1 : ¬ (0 ≤ A ∧ A ≤ 1114111 ∧ (A < 55296 ∨ 57343 < A)) := fun h => by rw [(isPt_iff A).2 h] at q; cases q
    simp only [or_true, if_true]
    generalize at_ t 0 = b0 at *
    generalize at_ t 1 = b1 at *
    generalize at_ t 2 = b2 at *
    generalize at_ t 3 = b3 at *
    unfold decodeN
    repeat' split
    all_goals first | rfl | (exfalso; omega) | (apply Prod.ext <;> simp only <;> omega)

theorem plain_low (t : ByteArray) (h : at_ t 0 < 128) : Utf8.decode t 0 = (at_ t 0, 1) := by
  rw [dec_at]; simp [decodeN, h]
set_option maxHeartbeats 2000000 in
theorem plain_none (t : ByteArray) (h0 : 128 ≤ at_ t 0) (h : at_ t 0 < 194 ∨ 245 ≤ at_ t 0) : Utf8.decode t 0 = (65533, 1) := by
  rw [dec_at]
  have z := at_lt t 0
  generalize at_ t 0 = b0 at *
  generalize at_ t 1 = b1
  generalize at_ t 2 = b2
  generalize at_ t 3 = b3
  unfold decodeN
  repeat' split
  all_goals first | rfl | (exfalso; omega)
end Go.Proofs.YtoddghppbfehpaaDoor
