/-
  Plain facts on code points: the steps by which a text is read, their code points, what they are written as, and that what is written is read again as it was. No conditions.
-/
import Derived.Lib.RuneBytes
import Derived.Lib.RuneCount
import Derived.Lib.ValidLaws
import Derived.Lib.TrimUEq
import Derived.Lib.MapLaws
namespace Go.Proofs.YtoddghppbfehpaaDoor
open Go.Lib

/-- The steps of the decoder over a list of bytes: each a code point and its width. -/
def stepsN : Nat → List UInt8 → List (Nat × Nat)
  | 0, _ => []
  | f + 1, l => if l = [] then [] else decodeL l :: stepsN f (l.drop (decodeL l).2)
def steps (l : List UInt8) : List (Nat × Nat) := stepsN l.length l

theorem stepsN_nil (n : Nat) : stepsN n [] = [] := by cases n <;> simp [stepsN]
theorem stepsN_fuel : ∀ (n m : Nat) (l : List UInt8), l.length ≤ n → l.length ≤ m → stepsN n l = stepsN m l
  | 0, m, l, h, _ => by
    have : l = [] := List.eq_nil_of_length_eq_zero (by omega)
    subst this
    rw [stepsN_nil, stepsN_nil]
  | n + 1, 0, l, _, h => by
    have : l = [] := List.eq_nil_of_length_eq_zero (by omega)
    subst this
    rw [stepsN_nil, stepsN_nil]
  | n + 1, m + 1, l, h1, h2 => by
    unfold stepsN
    by_cases hl : l = []
    · simp [hl]
    · have hw := decodeL_width l
      have hp : 0 < l.length := List.length_pos_iff.2 hl
      rw [if_neg hl, if_neg hl, stepsN_fuel n m (l.drop (decodeL l).2) (by rw [List.length_drop]; omega) (by rw [List.length_drop]; omega)]
theorem steps_nil : steps [] = [] := rfl
theorem steps_cons (l : List UInt8) (hl : l ≠ []) : steps l = decodeL l :: steps (l.drop (decodeL l).2) := by
  have hp : 0 < l.length := List.length_pos_iff.2 hl
  have hw := decodeL_width l
  obtain ⟨n, hn⟩ : ∃ n, l.length = n + 1 := ⟨l.length - 1, by omega⟩
  unfold steps
  rw [hn]
  show (if l = [] then [] else decodeL l :: stepsN n (l.drop (decodeL l).2)) = _
  rw [if_neg hl, stepsN_fuel n (l.drop (decodeL l).2).length _ (by rw [List.length_drop]; omega) (Nat.le_refl _)]
theorem steps_length_le (l : List UInt8) : (steps l).length ≤ l.length := by
  have : ∀ n (l : List UInt8), (stepsN n l).length ≤ n := by
    intro n
    induction n with
    | zero => intro l; simp [stepsN]
    | succ n ih =>
      intro l
      unfold stepsN
      split
      · simp
      · have := ih (l.drop (decodeL l).2)
        simp only [List.length_cons]; omega
  exact this _ _

/-- The code points of a list of bytes, U+FFFD for each bad byte. -/
def pts (l : List UInt8) : List Int := (steps l).map fun d => (d.1 : Int)
/-- The same, -1 for each bad byte. -/
def raw1 (d : Nat × Nat) : Int := if d.1 = 65533 ∧ d.2 = 1 then -1 else (d.1 : Int)
def raws (l : List UInt8) : List Int := (steps l).map raw1
/-- The bytes of code points. -/
def enc (l : List Int) : List UInt8 := l.flatMap encodeRune
/-- A code point? -/
def isPt (p : Int) : Bool := decide (0 ≤ p) && decide (p ≤ 1114111) && (decide (p < 55296) || decide (57343 < p))
def AllPt (l : List Int) : Prop := ∀ p ∈ l, isPt p = true

theorem isPt_iff (p : Int) : isPt p = true ↔ (0 ≤ p ∧ p ≤ 1114111 ∧ (p < 55296 ∨ 57343 < p)) := by
  simp [isPt, and_assoc]

theorem pts_nil : pts [] = [] := rfl
theorem pts_cons (l : List UInt8) (hl : l ≠ []) : pts l = ((decodeL l).1 : Int) :: pts (l.drop (decodeL l).2) := by
  unfold pts; rw [steps_cons l hl]; rfl
theorem raws_cons (l : List UInt8) (hl : l ≠ []) : raws l = raw1 (decodeL l) :: raws (l.drop (decodeL l).2) := by
  unfold raws; rw [steps_cons l hl]; rfl
theorem pts_length_le (l : List UInt8) : (pts l).length ≤ l.length := by
  unfold pts; rw [List.length_map]; exact steps_length_le l
theorem raws_length (l : List UInt8) : (raws l).length = (pts l).length := by simp [pts, raws]

theorem enc_nil : enc [] = [] := rfl
theorem enc_cons (p : Int) (l : List Int) : enc (p :: l) = encodeRune p ++ enc l := by simp [enc]
theorem enc_append (a b : List Int) : enc (a ++ b) = enc a ++ enc b := by simp [enc]
theorem encodeRune_length (p : Int) : 1 ≤ (encodeRune p).length ∧ (encodeRune p).length ≤ 4 := by
  have := encodeRuneZ_length p
  simpa [encodeRune] using this
theorem enc_length_le : ∀ l : List Int, (enc l).length ≤ 4 * l.length
  | [] => by simp [enc]
  | p :: l => by
    have := encodeRune_length p
    have := enc_length_le l
    rw [enc_cons, List.length_append, List.length_cons]; omega

theorem decode_isPt (l : List UInt8) : isPt ((decodeL l).1 : Int) = true := by
  rw [isPt_iff, decodeL_N]
  generalize l.length = n
  have h0 : (l.getD 0 0).toNat < 256 := UInt8.toNat_lt _
  generalize (l.getD 0 0).toNat = b0 at *
  generalize (l.getD 1 0).toNat = b1
  generalize (l.getD 2 0).toNat = b2
  generalize (l.getD 3 0).toNat = b3
  unfold decodeN
  repeat' split
  all_goals (simp only; omega)
theorem pts_allPt (l : List UInt8) : AllPt (pts l) := by
  have : ∀ n (l : List UInt8), ∀ d ∈ stepsN n l, isPt (d.1 : Int) = true := by
    intro n
    induction n with
    | zero => intro l d hd; simp [stepsN] at hd
    | succ n ih =>
      intro l d hd
      unfold stepsN at hd
      split at hd
      · simp at hd
      · rcases List.mem_cons.1 hd with rfl | hd
        · exact decode_isPt l
        · exact ih _ _ hd
  intro p hp
  unfold pts at hp
  obtain ⟨d, hd, rfl⟩ := List.mem_map.1 hp
  exact this _ _ d hd

/-- The reading of what is written. -/
theorem u8_toNat (x : Int) (h : 0 ≤ x ∧ x < 256) : (x.toNat.toUInt8).toNat = x.toNat := by
  rw [Nat.toUInt8_eq, UInt8.toNat_ofNat']; omega
theorem decode_enc (p : Int) (hp : isPt p = true) (r : List UInt8) : decodeL (encodeRune p ++ r) = (p.toNat, (encodeRune p).length) := by
  rw [isPt_iff] at hp
  obtain ⟨h0, h1, h2⟩ := hp
  rw [decodeL_N]
  by_cases a : p ≤ 127
  · simp only [encodeRune, encodeRuneZ_one h0 a, List.map_cons, List.map_nil, List.cons_append, List.nil_append, List.length_cons, List.length_nil, List.getD_cons_zero]
    rw [u8_toNat p (by omega)]
    have : p.toNat < 128 := by omega
    simp [decodeN, this]
  · by_cases b : p ≤ 2047
    · have e0 := u8_toNat (192 + p / 64) (by omega)
      have e1 := u8_toNat (128 + p % 64) (by omega)
      simp only [encodeRune, encodeRuneZ_two (by omega) b, List.map_cons, List.map_nil, List.cons_append, List.nil_append, List.length_cons, List.length_nil, List.getD_cons_zero, List.getD_cons_succ]
      rw [e0, e1]
      generalize (r.getD 0 0).toNat = b2
      generalize (r.getD 1 0).toNat = b3
      generalize r.length = n
      unfold decodeN
      repeat' split
      all_goals first | (exfalso; omega) | (apply Prod.ext <;> simp only <;> omega)
    · by_cases c : p ≤ 65535
      · have e0 := u8_toNat (224 + p / 4096) (by omega)
        have e1 := u8_toNat (128 + p / 64 % 64) (by omega)
        have e2 := u8_toNat (128 + p % 64) (by omega)
        simp only [encodeRune, encodeRuneZ_three (show (2048 ≤ p ∧ p < 55296) ∨ (57343 < p ∧ p ≤ 65535) by omega), List.map_cons, List.map_nil, List.cons_append, List.nil_append, List.length_cons, List.length_nil, List.getD_cons_zero, List.getD_cons_succ]
        rw [e0, e1, e2]
        generalize (r.getD 0 0).toNat = b3
        generalize r.length = n
        unfold decodeN
        repeat' split
        all_goals first | (exfalso; omega) | (apply Prod.ext <;> simp only <;> omega)
      · have e0 := u8_toNat (240 + p / 262144) (by omega)
        have e1 := u8_toNat (128 + p / 4096 % 64) (by omega)
        have e2 := u8_toNat (128 + p / 64 % 64) (by omega)
        have e3 := u8_toNat (128 + p % 64) (by omega)
        simp only [encodeRune, encodeRuneZ_four (show 65536 ≤ p by omega) h1, List.map_cons, List.map_nil, List.cons_append, List.nil_append, List.length_cons, List.length_nil, List.getD_cons_zero, List.getD_cons_succ]
        rw [e0, e1, e2, e3]
        generalize r.length = n
        unfold decodeN
        repeat' split
        all_goals first | (exfalso; omega) | (apply Prod.ext <;> simp only <;> omega)

theorem encodeRune_ne (p : Int) (r : List UInt8) : encodeRune p ++ r ≠ [] := by
  have := (encodeRune_length p).1
  intro h
  have h2 := congrArg List.length h
  simp at h2
  rw [h2.1] at this
  simp at this
theorem pts_enc : ∀ (l : List Int), AllPt l → ∀ r, pts (enc l ++ r) = l ++ pts r
  | [], _, r => by simp [enc]
  | p :: l, h, r => by
    have hp := h p List.mem_cons_self
    have h0 := ((isPt_iff p).1 hp).1
    rw [enc_cons, List.append_assoc, pts_cons _ (encodeRune_ne p _), decode_enc p hp]
    simp only [List.drop_left]
    rw [pts_enc l (fun q hq => h q (List.mem_cons_of_mem _ hq)) r, List.cons_append]
    congr 1
    omega
theorem pts_enc' (l : List Int) (h : AllPt l) : pts (enc l) = l := by
  have := pts_enc l h []
  simpa [pts_nil] using this
theorem valid_enc : ∀ (l : List Int), AllPt l → validD (enc l) = true
  | [], _ => rfl
  | p :: l, h => by
    have hp := h p List.mem_cons_self
    rw [enc_cons, validD_step _ (encodeRune_ne p _), decode_enc p hp]
    simp only [List.drop_left]
    rw [if_neg, valid_enc l (fun q hq => h q (List.mem_cons_of_mem _ hq))]
    rintro ⟨e1, e2⟩
    have : p = 65533 := by have := ((isPt_iff p).1 hp).1; omega
    subst this
    exact absurd e2 (by decide)
theorem enc_pts_of_valid : ∀ (n : Nat) (l : List UInt8), l.length ≤ n → validD l = true → enc (pts l) = l
  | 0, l, h, _ => by
    have : l = [] := List.eq_nil_of_length_eq_zero (by omega)
    subst this; rfl
  | n + 1, l, h, hv => by
    by_cases hl : l = []
    · subst hl; rfl
    · have hp : 0 < l.length := List.length_pos_iff.2 hl
      have hw := decodeL_width l
      rw [validD_step l hl] at hv
      split at hv
      · cases hv
      · rename_i hg
        rw [pts_cons l hl, enc_cons, encode_decode l hl hg, enc_pts_of_valid n (l.drop (decodeL l).2) (by rw [List.length_drop]; omega) hv, List.take_append_drop]
theorem valid_iff (l : List UInt8) : validD l = true ↔ enc (pts l) = l :=
  ⟨enc_pts_of_valid _ l (Nat.le_refl _), fun h => by rw [← h]; exact valid_enc _ (pts_allPt l)⟩
theorem raws_valid : ∀ (n : Nat) (l : List UInt8), l.length ≤ n → validD l = (raws l).all fun p => decide (0 ≤ p)
  | 0, l, h => by
    have : l = [] := List.eq_nil_of_length_eq_zero (by omega)
    subst this; rfl
  | n + 1, l, h => by
    by_cases hl : l = []
    · subst hl; rfl
    · have hp : 0 < l.length := List.length_pos_iff.2 hl
      have hw := decodeL_width l
      rw [validD_step l hl, raws_cons l hl, List.all_cons, ← raws_valid n (l.drop (decodeL l).2) (by rw [List.length_drop]; omega)]
      unfold raw1
      split
      · simp
      · simp
/-- What the bad ones are made of. -/
def fix (p : Int) : Int := if p < 0 then 65533 else p
theorem fix_raw1 (d : Nat × Nat) : fix (raw1 d) = (d.1 : Int) := by
  unfold fix raw1
  split <;> rename_i h
  · rw [if_pos (by omega)]; omega
  · rw [if_neg (by omega)]
theorem map_fix_raws (l : List UInt8) : (raws l).map fix = pts l := by
  simp [raws, pts, List.map_map, Function.comp_def, fix_raw1]
theorem raws_bound (l : List UInt8) : ∀ p ∈ raws l, -1 ≤ p ∧ p ≤ 1114111 := by
  intro p hp
  unfold raws at hp
  obtain ⟨d, hd, rfl⟩ := List.mem_map.1 hp
  have : ((d.1 : Nat) : Int) ∈ pts l := List.mem_map.2 ⟨d, hd, rfl⟩
  have := (isPt_iff _).1 (pts_allPt l _ this)
  unfold raw1
  split <;> omega
end Go.Proofs.YtoddghppbfehpaaDoor
