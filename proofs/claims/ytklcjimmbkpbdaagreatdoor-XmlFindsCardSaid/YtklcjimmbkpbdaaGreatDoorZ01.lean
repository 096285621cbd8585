/-
  Of the proofs of layer 8 (elements of XML): the parts Plain EscP EscQ EscJ. No conditions.
-/
import Derived.Lib.RuneBytes
import Derived.Lib.RuneCount
import Derived.Lib.ValidLaws
import Derived.Lib.TrimUEq
import Derived.Lib.MapLaws
namespace Go.Proofs.YtklcjimmbkpbdaaGreatDoor
open Go.Lib

/-- The steps of the decoder over a list of bytes: each a code point and its width. -/
def stepsN : Nat → List UInt8 → List (Nat × Nat)
  | 0, _ => []
  | f + 1, l => if l = [] then [] else decodeL l :: stepsN f (l.drop (decodeL l).2)
def steps (l : List UInt8) : List (Nat × Nat) := stepsN l.length l

theorem stepsN_nil (n : Nat) : stepsN n [] = [] := by cases n <;> simp [stepsN]
theorem stepsN_fuel : ∀ (n m : Nat) (l : List UInt8), l.length ≤ n → l.length ≤ m → stepsN n l = stepsN m l
  | 0, m, l, h, _ => by
    have : l = [] := List.eq_nil_of_length_eq_zero (by omega)
    subst this
    rw [stepsN_nil, stepsN_nil]
  | n + 1, 0, l, _, h => by
    have : l = [] := List.eq_nil_of_length_eq_zero (by omega)
    subst this
    rw [stepsN_nil, stepsN_nil]
  | n + 1, m + 1, l, h1, h2 => by
    unfold stepsN
    by_cases hl : l = []
    · simp [hl]
    · have hw := decodeL_width l
      have hp : 0 < l.length := List.length_pos_iff.2 hl
      rw [if_neg hl, if_neg hl, stepsN_fuel n m (l.drop (decodeL l).2) (by rw [List.length_drop]; omega) (by rw [List.length_drop]; omega)]
theorem steps_nil : steps [] = [] := rfl
theorem steps_cons (l : List UInt8) (hl : l ≠ []) : steps l = decodeL l :: steps (l.drop (decodeL l).2) := by
  have hp : 0 < l.length := List.length_pos_iff.2 hl
  have hw := decodeL_width l
  obtain ⟨n, hn⟩ : ∃ n, l.length = n + 1 := ⟨l.length - 1, by omega⟩
  unfold steps
  rw [hn]
  show (if l = [] then [] else decodeL l :: stepsN n (l.drop (decodeL l).2)) = _
  rw [if_neg hl, stepsN_fuel n (l.drop (decodeL l).2).length _ (by rw [List.length_drop]; omega) (Nat.le_refl _)]
theorem steps_length_le (l : List UInt8) : (steps l).length ≤ l.length := by
  have : ∀ n (l : List UInt8), (stepsN n l).length ≤ n := by
    intro n
    induction n with
    | zero => intro l; simp [stepsN]
    | succ n ih =>
      intro l
      unfold stepsN
      split
      · simp
      · have := ih (l.drop (decodeL l).2)
        simp only [List.length_cons]; omega
  exact this _ _

/-- The code points of a list of bytes, U+FFFD for each bad byte. -/
def pts (l : List UInt8) : List Int := (steps l).map fun d => (d.1 : Int)
/-- The same, -1 for each bad byte. -/
def raw1 (d : Nat × Nat) : Int := if d.1 = 65533 ∧ d.2 = 1 then -1 else (d.1 : Int)
def raws (l : List UInt8) : List Int := (steps l).map raw1
/-- The bytes of code points. -/
def enc (l : List Int) : List UInt8 := l.flatMap encodeRune
/-- A code point? -/
def isPt (p : Int) : Bool := decide (0 ≤ p) && decide (p ≤ 1114111) && (decide (p < 55296) || decide (57343 < p))
def AllPt (l : List Int) : Prop := ∀ p ∈ l, isPt p = true

theorem isPt_iff (p : Int) : isPt p = true ↔ (0 ≤ p ∧ p ≤ 1114111 ∧ (p < 55296 ∨ 57343 < p)) := by
  simp [isPt, and_assoc]

theorem pts_nil : pts [] = [] := rfl
theorem pts_cons (l : List UInt8) (hl : l ≠ []) : pts l = ((decodeL l).1 : Int) :: pts (l.drop (decodeL l).2) := by
  unfold pts; rw [steps_cons l hl]; rfl
theorem raws_cons (l : List UInt8) (hl : l ≠ []) : raws l = raw1 (decodeL l) :: raws (l.drop (decodeL l).2) := by
  unfold raws; rw [steps_cons l hl]; rfl
theorem pts_length_le (l : List UInt8) : (pts l).length ≤ l.length := by
  unfold pts; rw [List.length_map]; exact steps_length_le l
theorem raws_length (l : List UInt8) : (raws l).length = (pts l).length := by simp [pts, raws]

theorem enc_nil : enc [] = [] := rfl
theorem enc_cons (p : Int) (l : List Int) : enc (p :: l) = encodeRune p ++ enc l := by simp [enc]
theorem enc_append (a b : List Int) : enc (a ++ b) = enc a ++ enc b := by simp [enc]
theorem encodeRune_length (p : Int) : 1 ≤ (encodeRune p).length ∧ (encodeRune p).length ≤ 4 := by
  have := encodeRuneZ_length p
  simpa [encodeRune] using this
theorem enc_length_le : ∀ l : List Int, (enc l).length ≤ 4 * l.length
  | [] => by simp [enc]
  | p :: l => by
    have := encodeRune_length p
    have := enc_length_le l
    rw [enc_cons, List.length_append, List.length_cons]; omega

theorem decode_isPt (l : List UInt8) : isPt ((decodeL l).1 : Int) = true := by
  rw [isPt_iff, decodeL_N]
  generalize l.length = n
  have h0 : (l.getD 0 0).toNat < 256 := UInt8.toNat_lt _
  generalize (l.getD 0 0).toNat = b0 at *
  generalize (l.getD 1 0).toNat = b1
  generalize (l.getD 2 0).toNat = b2
  generalize (l.getD 3 0).toNat = b3
  unfold decodeN
  repeat' split
  all_goals (simp only; omega)
theorem pts_allPt (l : List UInt8) : AllPt (pts l) := by
  have : ∀ n (l : List UInt8), ∀ d ∈ stepsN n l, isPt (d.1 : Int) = true := by
    intro n
    induction n with
    | zero => intro l d hd; simp [stepsN] at hd
    | succ n ih =>
      intro l d hd
      unfold stepsN at hd
      split at hd
      · simp at hd
      · rcases List.mem_cons.1 hd with rfl | hd
        · exact decode_isPt l
        · exact ih _ _ hd
  intro p hp
  unfold pts at hp
  obtain ⟨d, hd, rfl⟩ := List.mem_map.1 hp
  exact this _ _ d hd

/-- The reading of what is written. -/
theorem u8_toNat (x : Int) (h : 0 ≤ x ∧ x < 256) : (x.toNat.toUInt8).toNat = x.toNat := by
  rw [Nat.toUInt8_eq, UInt8.toNat_ofNat']; omega
theorem decode_enc (p : Int) (hp : isPt p = true) (r : List UInt8) : decodeL (encodeRune p ++ r) = (p.toNat, (encodeRune p).length) := by
  rw [isPt_iff] at hp
  obtain ⟨h0, h1, h2⟩ := hp
  rw [decodeL_N]
  by_cases a : p ≤ 127
  · simp only [encodeRune, encodeRuneZ_one h0 a, List.map_cons, List.map_nil, List.cons_append, List.nil_append, List.length_cons, List.length_nil, List.getD_cons_zero]
    rw [u8_toNat p (by omega)]
    have : p.toNat < 128 := by omega
    simp [decodeN, this]
  · by_cases b : p ≤ 2047
    · have e0 := u8_toNat (192 + p / 64) (by omega)
      have e1 := u8_toNat (128 + p % 64) (by omega)
      simp only [encodeRune, encodeRuneZ_two (by omega) b, List.map_cons, List.map_nil, List.cons_append, List.nil_append, List.length_cons, List.length_nil, List.getD_cons_zero, List.getD_cons_succ]
      rw [e0, e1]
      generalize (r.getD 0 0).toNat = b2
      generalize (r.getD 1 0).toNat = b3
      generalize r.length = n
      unfold decodeN
      repeat' split
      all_goals first | (exfalso; omega) | (apply Prod.ext <;> simp only <;> omega)
    · by_cases c : p ≤ 65535
      · have e0 := u8_toNat (224 + p / 4096) (by omega)
        have e1 := u8_toNat (128 + p / 64 % 64) (by omega)
        have e2 := u8_toNat (128 + p % 64) (by omega)
        simp only [encodeRune, encodeRuneZ_three (show (2048 ≤ p ∧ p < 55296) ∨ (57343 < p ∧ p ≤ 65535) by omega), List.map_cons, List.map_nil, List.cons_append, List.nil_append, List.length_cons, List.length_nil, List.getD_cons_zero, List.getD_cons_succ]
        rw [e0, e1, e2]
        generalize (r.getD 0 0).toNat = b3
        generalize r.length = n
        unfold decodeN
        repeat' split
        all_goals first | (exfalso; omega) | (apply Prod.ext <;> simp only <;> omega)
      · have e0 := u8_toNat (240 + p / 262144) (by omega)
        have e1 := u8_toNat (128 + p / 4096 % 64) (by omega)
        have e2 := u8_toNat (128 + p / 64 % 64) (by omega)
        have e3 := u8_toNat (128 + p % 64) (by omega)
        simp only [encodeRune, encodeRuneZ_four (show 65536 ≤ p by omega) h1, List.map_cons, List.map_nil, List.cons_append, List.nil_append, List.length_cons, List.length_nil, List.getD_cons_zero, List.getD_cons_succ]
        rw [e0, e1, e2, e3]
        generalize r.length = n
        unfold decodeN
        repeat' split
        all_goals first | (exfalso; omega) | (apply Prod.ext <;> simp only <;> omega)

theorem encodeRune_ne (p : Int) (r : List UInt8) : encodeRune p ++ r ≠ [] := by
  have := (encodeRune_length p).1
  intro h
  have h2 := congrArg List.length h
  simp at h2
  rw [h2.1] at this
  simp at this
theorem pts_enc : ∀ (l : List Int), AllPt l → ∀ r, pts (enc l ++ r) = l ++ pts r
  | [], _, r => by simp [enc]
  | p :: l, h, r => by
    have hp := h p List.mem_cons_self
    have h0 := ((isPt_iff p).1 hp).1
    rw [enc_cons, List.append_assoc, pts_cons _ (encodeRune_ne p _), decode_enc p hp]
    simp only [List.drop_left]
    rw [pts_enc l (fun q hq => h q (List.mem_cons_of_mem _ hq)) r, List.cons_append]
    congr 1
    omega
theorem pts_enc' (l : List Int) (h : AllPt l) : pts (enc l) = l := by
  have := pts_enc l h []
  simpa [pts_nil] using this
theorem valid_enc : ∀ (l : List Int), AllPt l → validD (enc l) = true
  | [], _ => rfl
  | p :: l, h => by
    have hp := h p List.mem_cons_self
    rw [enc_cons, validD_step _ (encodeRune_ne p _), decode_enc p hp]
    simp only [List.drop_left]
    rw [if_neg, valid_enc l (fun q hq => h q (List.mem_cons_of_mem _ hq))]
    rintro ⟨e1, e2⟩
    have : p = 65533 := by have := ((isPt_iff p).1 hp).1; omega
    subst this
    exact absurd e2 (by decide)
theorem enc_pts_of_valid : ∀ (n : Nat) (l : List UInt8), l.length ≤ n → validD l = true → enc (pts l) = l
  | 0, l, h, _ => by
    have : l = [] := List.eq_nil_of_length_eq_zero (by omega)
    subst this; rfl
  | n + 1, l, h, hv => by
    by_cases hl : l = []
    · subst hl; rfl
    · have hp : 0 < l.length := List.length_pos_iff.2 hl
      have hw := decodeL_width l
      rw [validD_step l hl] at hv
      split at hv
      · cases hv
      · rename_i hg
        rw [pts_cons l hl, enc_cons, encode_decode l hl hg, enc_pts_of_valid n (l.drop (decodeL l).2) (by rw [List.length_drop]; omega) hv, List.take_append_drop]
theorem valid_iff (l : List UInt8) : validD l = true ↔ enc (pts l) = l :=
  ⟨enc_pts_of_valid _ l (Nat.le_refl _), fun h => by rw [← h]; exact valid_enc _ (pts_allPt l)⟩
theorem raws_valid : ∀ (n : Nat) (l : List UInt8), l.length ≤ n → validD l = (raws l).all fun p => decide (0 ≤ p)
  | 0, l, h => by
    have : l = [] := List.eq_nil_of_length_eq_zero (by omega)
    subst this; rfl
  | n + 1, l, h => by
    by_cases hl : l = []
    · subst hl; rfl
    · have hp : 0 < l.length := List.length_pos_iff.2 hl
      have hw := decodeL_width l
      rw [validD_step l hl, raws_cons l hl, List.all_cons, ← raws_valid n (l.drop (decodeL l).2) (by rw [List.length_drop]; omega)]
      unfold raw1
      split
      · simp
      · simp
/-- What the bad ones are made of. -/
def fix (p : Int) : Int := if p < 0 then 65533 else p
theorem fix_raw1 (d : Nat × Nat) : fix (raw1 d) = (d.1 : Int) := by
  unfold fix raw1
  split <;> rename_i h
  · rw [if_pos (by omega)]; omega
  · rw [if_neg (by omega)]
theorem map_fix_raws (l : List UInt8) : (raws l).map fix = pts l := by
  simp [raws, pts, List.map_map, Function.comp_def, fix_raw1]
theorem raws_bound (l : List UInt8) : ∀ p ∈ raws l, -1 ≤ p ∧ p ≤ 1114111 := by
  intro p hp
  unfold raws at hp
  obtain ⟨d, hd, rfl⟩ := List.mem_map.1 hp
  have : ((d.1 : Nat) : Int) ∈ pts l := List.mem_map.2 ⟨d, hd, rfl⟩
  have := (isPt_iff _).1 (pts_allPt l _ this)
  unfold raw1
  split <;> omega
end Go.Proofs.YtklcjimmbkpbdaaGreatDoor
namespace Go.Proofs.YtklcjimmbkpbdaaGreatDoor
open Go.Lib

/-- What XML has. -/
def inXml (p : Int) : Bool := decide (32 ≤ p ∧ p ≠ 65534 ∧ p ≠ 65535 ∨ p = 9 ∨ p = 10 ∨ p = 13)

/-! A code point in HTML, as code points. -/
def hP (p : Int) : List Int :=
  if p = 38 then [38, 97, 109, 112, 59] else if p = 60 then [38, 108, 116, 59] else if p = 62 then [38, 103, 116, 59] else if p = 34 then [38, 113, 117, 111, 116, 59] else if p = 39 then [38, 35, 51, 57, 59] else [p]
def html (l : List Int) : List Int := l.flatMap hP
theorem html_nil : html [] = [] := rfl
theorem html_cons (p : Int) (l : List Int) : html (p :: l) = hP p ++ html l := by simp [html]
theorem html_append (a b : List Int) : html (a ++ b) = html a ++ html b := by simp [html]
theorem hP_length (p : Int) : (hP p).length ≤ 6 := by
  unfold hP; repeat' split
  all_goals simp
theorem flat_length {f : Int → List Int} {m : Nat} (h : ∀ p, (f p).length ≤ m) (l : List Int) : (l.flatMap f).length ≤ m * l.length := by
  induction l with
  | nil => simp
  | cons p l ih =>
    have := h p
    rw [List.flatMap_cons, List.length_append, List.length_cons, Nat.mul_succ]; omega
theorem html_length (l : List Int) : (html l).length ≤ 6 * l.length := flat_length hP_length l
theorem hP_pt (p : Int) (h : isPt p = true) : AllPt (hP p) := by
  intro q hq
  unfold hP at hq
  repeat' split at hq
  all_goals simp at hq
  all_goals first | (subst hq; exact h) | (rcases hq with rfl | rfl | rfl | rfl | rfl | rfl <;> decide) | (rcases hq with rfl | rfl | rfl | rfl | rfl <;> decide) | (rcases hq with rfl | rfl | rfl | rfl <;> decide)
theorem flat_pt {f : Int → List Int} (h : ∀ p, isPt p = true → AllPt (f p)) {l : List Int} (hl : AllPt l) : AllPt (l.flatMap f) := by
  intro q hq
  obtain ⟨p, hp, hq⟩ := List.mem_flatMap.1 hq
  exact h p (hl p hp) q hq
theorem html_pt {l : List Int} (h : AllPt l) : AllPt (html l) := flat_pt hP_pt h
theorem hP_xml (p : Int) (h : inXml p = true) : ∀ q ∈ hP p, inXml q = true := by
  intro q hq
  unfold hP at hq
  repeat' split at hq
  all_goals simp at hq
  all_goals first | (subst hq; exact h) | (rcases hq with rfl | rfl | rfl | rfl | rfl | rfl <;> decide) | (rcases hq with rfl | rfl | rfl | rfl | rfl <;> decide) | (rcases hq with rfl | rfl | rfl | rfl <;> decide)
theorem html_xml {l : List Int} (h : ∀ p ∈ l, inXml p = true) : (html l).filter inXml = html l := by
  rw [List.filter_eq_self]
  intro q hq
  obtain ⟨p, hp, hq⟩ := List.mem_flatMap.1 hq
  exact hP_xml p (h p hp) q hq
theorem hP_no (p q : Int) (hq : q ∈ hP p) : q ≠ 60 ∧ q ≠ 62 ∧ q ≠ 34 ∧ q ≠ 39 := by
  unfold hP at hq
  repeat' split at hq
  all_goals simp at hq
  all_goals omega
theorem html_no (l : List Int) (q : Int) (hq : q ∈ html l) : q ≠ 60 ∧ q ≠ 62 ∧ q ≠ 34 ∧ q ≠ 39 := by
  obtain ⟨p, _, hq⟩ := List.mem_flatMap.1 hq
  exact hP_no p q hq

/-! Digits. -/
def digN (c : UInt8) : Int := if 48 ≤ c.toNat ∧ c.toNat ≤ 57 then (c.toNat : Int) - 48 else if 97 ≤ c.toNat ∧ c.toNat ≤ 102 then (c.toNat : Int) - 87 else if 65 ≤ c.toNat ∧ c.toNat ≤ 70 then (c.toNat : Int) - 55 else -1
theorem digN_bd (c : UInt8) : -1 ≤ digN c ∧ digN c ≤ 15 := by unfold digN; repeat' split
                                                              all_goals omega
def isD (base : Int) (c : UInt8) : Bool := decide (0 ≤ digN c) && decide (digN c < base)
def valD (base : Int) (l : List UInt8) : Int := l.foldl (fun n c => n * base + digN c) 0
theorem valD_snoc (base : Int) (l : List UInt8) (c : UInt8) : valD base (l ++ [c]) = valD base l * base + digN c := by simp [valD]
theorem isD_59 (base : Int) : isD base 59 = false := by
  have : digN 59 = -1 := by decide
  simp [isD, this]
/-- A number of one to most digits, or -1. -/
def numP (base : Int) (most : Nat) (l : List UInt8) : Int := if l = [] ∨ most < l.length ∨ l.all (isD base) = false then -1 else valD base l
/-- The digits at the beginning. -/
def digs (base : Int) (most : Nat) (l : List UInt8) : List UInt8 := (l.take most).takeWhile (isD base)
theorem digs_length (base : Int) (most : Nat) (l : List UInt8) : (digs base most l).length ≤ most ∧ (digs base most l).length ≤ l.length := by
  unfold digs
  have h1 := (List.takeWhile_prefix (p := isD base) (l := l.take most)).length_le
  rw [List.length_take] at h1
  omega
theorem digs_all (base : Int) (most : Nat) (l : List UInt8) : ∀ c ∈ digs base most l, isD base c = true := fun c hc => by
  have := List.all_takeWhile (p := isD base) (l := l.take most)
  exact List.all_eq_true.1 this c hc
theorem digs_pre (base : Int) (most : Nat) (l : List UInt8) : digs base most l = l.take (digs base most l).length := by
  have h1 : digs base most l <+: l := (List.takeWhile_prefix _).trans (List.take_prefix _ _)
  exact List.prefix_iff_eq_take.1 h1
theorem digs_semi_eq (base : Int) (most : Nat) (ds t : List UInt8) (h : ¬ (ds = [] ∨ most < ds.length ∨ ds.all (isD base) = false)) : digs base most (ds ++ 59 :: t) = ds := by
  have h2 : ds.length ≤ most := by
    apply Decidable.byContradiction; intro hh; exact h (.inr (.inl (by omega)))
  have h3 : ds.all (isD base) = true := by
    cases hh : ds.all (isD base) with
    | true => rfl
    | false => exact absurd (.inr (.inr hh)) h
  unfold digs
  rw [List.take_append, List.take_of_length_le h2]
  rw [List.takeWhile_append_of_pos (fun c hc => List.all_eq_true.1 h3 c hc)]
  have : (List.takeWhile (isD base) (List.take (most - ds.length) (59 :: t))) = [] := by
    cases hm : most - ds.length with
    | zero => rfl
    | succ n => simp [isD_59]
  rw [this, List.append_nil]
/-- What is all digits up to a semicolon. -/
theorem digs_semi (base : Int) (most : Nat) (ds t : List UInt8) (h59 : (59 : UInt8) ∉ ds) :
    ((digs base most (ds ++ 59 :: t)).length ≠ 0 ∧ (ds ++ 59 :: t)[(digs base most (ds ++ 59 :: t)).length]? = some 59) ↔ ¬ (ds = [] ∨ most < ds.length ∨ ds.all (isD base) = false) := by
  constructor
  · rintro ⟨h0, h1⟩
    have hlen := digs_length base most (ds ++ 59 :: t)
    have hall := digs_all base most (ds ++ 59 :: t)
    have hpre := digs_pre base most (ds ++ 59 :: t)
    generalize digs base most (ds ++ 59 :: t) = g at *
    have hge : ds.length ≤ g.length := by
      apply Decidable.byContradiction
      intro hlt
      rw [List.getElem?_append_left (by omega)] at h1
      exact h59 (List.mem_of_getElem? h1)
    have hle : g.length ≤ ds.length := by
      apply Decidable.byContradiction
      intro hlt
      have : (59 : UInt8) ∈ g := by
        rw [hpre]
        refine List.mem_of_getElem? (i := ds.length) ?_
        rw [List.getElem?_take_of_lt (by omega), List.getElem?_append_right (Nat.le_refl _)]
        simp
      have := hall 59 this
      rw [isD_59] at this
      cases this
    have he : g.length = ds.length := by omega
    have hg : g = ds := by rw [hpre, he, List.take_left]
    subst hg
    rintro (h | h | h)
    · subst h; exact h0 rfl
    · omega
    · have : g.all (isD base) = true := List.all_eq_true.2 hall
      rw [this] at h; cases h
  · intro h
    have h1 : ds ≠ [] := fun e => h (.inl e)
    have hd := digs_semi_eq base most ds t h
    rw [hd]
    refine ⟨fun e => h1 (List.eq_nil_of_length_eq_zero e), ?_⟩
    rw [List.getElem?_append_right (Nat.le_refl _)]
    simp
end Go.Proofs.YtklcjimmbkpbdaaGreatDoor
namespace Go.Proofs.YtklcjimmbkpbdaaGreatDoor
open Go.Lib

/-- A number that a reference may tell. -/
def chk (n : Int) : Int := if 1 ≤ n ∧ isPt n = true then n else -1
/-- The number behind a number sign. -/
def sharp (r : List UInt8) : Int := if r.head? = some 120 ∨ r.head? = some 88 then numP 16 6 (r.drop 1) else numP 10 7 r
/-- The code point of a reference's name, or -1. -/
def nameP (nm : List UInt8) : Int :=
  if nm = [97, 109, 112] then 38 else if nm = [108, 116] then 60 else if nm = [103, 116] then 62 else if nm = [113, 117, 111, 116] then 34 else if nm = [97, 112, 111, 115] then 39
  else if nm.head? = some 35 then chk (sharp (nm.drop 1)) else -1
/-- The end of the document's Reference: the number, its digits, where they begin. -/
def fin (l : List UInt8) (at' k : Nat) (p : Int) : Int × Nat := if k ≠ 0 ∧ l[at' + k]? = some 59 ∧ p ≠ 0 ∧ isPt p = true then (p, at' + k + 2) else (-1, 0)
/-- The document's Reference, of what stands behind the ampersand. -/
def refQ (l : List UInt8) : Int × Nat :=
  if [97, 109, 112, 59].isPrefixOf l = true then (38, 5) else if [108, 116, 59].isPrefixOf l = true then (60, 4) else if [103, 116, 59].isPrefixOf l = true then (62, 4) else if [113, 117, 111, 116, 59].isPrefixOf l = true then (34, 6) else if [97, 112, 111, 115, 59].isPrefixOf l = true then (39, 6)
  else if [35, 120].isPrefixOf l = true ∨ [35, 88].isPrefixOf l = true then fin l 2 (digs 16 6 (l.drop 2)).length (valD 16 (digs 16 6 (l.drop 2)))
  else if [35].isPrefixOf l = true then fin l 1 (digs 10 7 (l.drop 1)).length (valD 10 (digs 10 7 (l.drop 1))) else (-1, 0)

theorem pre_semi (t : List UInt8) : ∀ (x nm : List UInt8), (59 : UInt8) ∉ x → (59 : UInt8) ∉ nm → ((x ++ [59]).isPrefixOf (nm ++ 59 :: t) = true ↔ nm = x)
  | [], [], _, _ => by simp
  | [], b :: nm, _, h => by
    simp only [List.nil_append, List.cons_append, List.isPrefixOf, Bool.and_eq_true, beq_iff_eq]
    constructor
    · rintro ⟨e, _⟩; subst e; exact absurd List.mem_cons_self h
    · intro e; cases e
  | a :: x, [], h, _ => by
    simp only [List.nil_append, List.cons_append, List.isPrefixOf, Bool.and_eq_true, beq_iff_eq]
    constructor
    · rintro ⟨e, _⟩; subst e; exact absurd List.mem_cons_self h
    · intro e; cases e
  | a :: x, b :: nm, h1, h2 => by
    have ih := pre_semi t x nm (fun e => h1 (List.mem_cons_of_mem _ e)) (fun e => h2 (List.mem_cons_of_mem _ e))
    simp only [List.cons_append, List.isPrefixOf, Bool.and_eq_true, beq_iff_eq, List.cons.injEq]
    rw [ih]
    constructor
    · rintro ⟨rfl, rfl⟩; exact ⟨rfl, rfl⟩
    · rintro ⟨rfl, rfl⟩; exact ⟨rfl, rfl⟩
theorem numP_neg (base : Int) (most : Nat) (ds : List UInt8) (h : ds = [] ∨ most < ds.length ∨ ds.all (isD base) = false) : numP base most ds = -1 := by unfold numP; rw [if_pos h]
/-- Digits up to a semicolon, behind some other bytes. -/
theorem fin_semi (base : Int) (most at' : Nat) (hd ds t : List UInt8) (hh : hd.length = at') (h59 : (59 : UInt8) ∉ ds) :
    fin (hd ++ (ds ++ 59 :: t)) at' (digs base most (ds ++ 59 :: t)).length (valD base (digs base most (ds ++ 59 :: t))) = if chk (numP base most ds) = -1 then (-1, 0) else (chk (numP base most ds), at' + ds.length + 2) := by
  have hs := digs_semi base most ds t h59
  have hget : (hd ++ (ds ++ 59 :: t))[at' + (digs base most (ds ++ 59 :: t)).length]? = (ds ++ 59 :: t)[(digs base most (ds ++ 59 :: t)).length]? := by
    rw [List.getElem?_append_right (by omega)]
    congr 1
    omega
  unfold fin
  rw [hget]
  by_cases hg : ds = [] ∨ most < ds.length ∨ ds.all (isD base) = false
  · rw [numP_neg _ _ _ hg, show chk (-1) = -1 by decide, if_pos rfl, if_neg]
    rintro ⟨h1, h2, _⟩
    exact hs.1 ⟨h1, h2⟩ hg
  · have hq := hs.2 hg
    have hn : numP base most ds = valD base ds := by unfold numP; rw [if_neg hg]
    have he := digs_semi_eq base most ds t hg
    rw [he] at hq ⊢
    have hv : 0 ≤ valD base ds := by
      have hall : ds.all (isD base) = true := by
        cases hh : ds.all (isD base) with
        | true => rfl
        | false => exact absurd (.inr (.inr hh)) hg
      by_cases hb : 0 ≤ base
      · have : ∀ (l : List UInt8) (n : Int), 0 ≤ n → (∀ c ∈ l, isD base c = true) → 0 ≤ l.foldl (fun n c => n * base + digN c) n := by
          intro l
          induction l with
          | nil => intro n hn _; exact hn
          | cons c l ih =>
            intro n hn hc
            refine ih _ ?_ (fun d hd => hc d (List.mem_cons_of_mem _ hd))
            have h1 := hc c List.mem_cons_self
            simp [isD] at h1
            have := Int.mul_nonneg hn hb
            show 0 ≤ n * base + digN c
            omega
        exact this ds 0 (Int.le_refl _) (List.all_eq_true.1 hall)
      · exfalso
        have hne : ds ≠ [] := fun e => hg (.inl e)
        obtain ⟨c, l, rfl⟩ := List.exists_cons_of_ne_nil hne
        have h1 := List.all_eq_true.1 hall c List.mem_cons_self
        simp [isD] at h1
        omega
    rw [hn]
    by_cases hc : valD base ds ≠ 0 ∧ isPt (valD base ds) = true
    · have hk : chk (valD base ds) = valD base ds := by unfold chk; rw [if_pos ⟨by omega, hc.2⟩]
      rw [hk, if_pos ⟨hq.1, hq.2, hc.1, hc.2⟩, if_neg (by omega)]
    · have hk : chk (valD base ds) = -1 := by unfold chk; rw [if_neg]; rintro ⟨h1, h2⟩; exact hc ⟨by omega, h2⟩
      rw [hk, if_pos rfl, if_neg]
      rintro ⟨_, _, h3, h4⟩
      exact hc ⟨h3, h4⟩
/-- A reference by its name. -/
theorem refQ_name (nm t : List UInt8) (h59 : (59 : UInt8) ∉ nm) : refQ (nm ++ 59 :: t) = if nameP nm = -1 then (-1, 0) else (nameP nm, nm.length + 2) := by
  have e1 := pre_semi t [97, 109, 112] nm (by decide) h59
  have e2 := pre_semi t [108, 116] nm (by decide) h59
  have e3 := pre_semi t [103, 116] nm (by decide) h59
  have e4 := pre_semi t [113, 117, 111, 116] nm (by decide) h59
  have e5 := pre_semi t [97, 112, 111, 115] nm (by decide) h59
  simp only [List.cons_append, List.nil_append] at e1 e2 e3 e4 e5
  unfold refQ nameP
  by_cases c1 : nm = [97, 109, 112]
  · rw [if_pos (e1.2 c1), if_pos c1]; subst c1; rfl
  rw [if_neg (fun h => c1 (e1.1 h)), if_neg c1]
  by_cases c2 : nm = [108, 116]
  · rw [if_pos (e2.2 c2), if_pos c2]; subst c2; rfl
  rw [if_neg (fun h => c2 (e2.1 h)), if_neg c2]
  by_cases c3 : nm = [103, 116]
  · rw [if_pos (e3.2 c3), if_pos c3]; subst c3; rfl
  rw [if_neg (fun h => c3 (e3.1 h)), if_neg c3]
  by_cases c4 : nm = [113, 117, 111, 116]
  · rw [if_pos (e4.2 c4), if_pos c4]; subst c4; rfl
  rw [if_neg (fun h => c4 (e4.1 h)), if_neg c4]
  by_cases c5 : nm = [97, 112, 111, 115]
  · rw [if_pos (e5.2 c5), if_pos c5]; subst c5; rfl
  rw [if_neg (fun h => c5 (e5.1 h)), if_neg c5]
  clear e1 e2 e3 e4 e5 c1 c2 c3 c4 c5
  match nm, h59 with
  | [], _ => simp [List.isPrefixOf]
  | a :: r, h59 =>
    by_cases ha : a = 35
    · subst ha
      have hr : (59 : UInt8) ∉ r := fun e => h59 (List.mem_cons_of_mem _ e)
      have hN : (if (35 :: r : List UInt8).head? = some 35 then chk (sharp (List.drop 1 (35 :: r))) else -1) = chk (sharp r) := rfl
      rw [hN]
      clear hN
      match r, hr with
      | [], _ =>
        rw [show chk (sharp []) = -1 by decide, if_pos rfl, if_neg (by simp [List.isPrefixOf]), if_pos (by simp [List.isPrefixOf])]
        have := fin_semi 10 7 1 [35] [] t rfl (by simp)
        rw [show chk (numP 10 7 []) = -1 by decide, if_pos rfl] at this
        exact this
      | x :: ds, hr =>
        have hds : (59 : UInt8) ∉ ds := fun e => hr (List.mem_cons_of_mem _ e)
        by_cases hx : x = 120 ∨ x = 88
        · have hS : sharp (x :: ds) = numP 16 6 ds := by
            unfold sharp
            rw [if_pos (by simpa using hx)]
            rfl
          rw [hS, if_pos (by rcases hx with rfl | rfl <;> simp [List.isPrefixOf])]
          have := fin_semi 16 6 2 [35, x] ds t rfl hds
          simp only [List.length_cons]
          rw [show 2 + ds.length + 2 = ds.length + 1 + 1 + 2 by omega] at this
          exact this
        · have hS : sharp (x :: ds) = numP 10 7 (x :: ds) := by
            unfold sharp
            rw [if_neg (by simpa using hx)]
          rw [hS, if_neg (by simp [List.isPrefixOf]; exact ⟨fun e => hx (.inl e.symm), fun e => hx (.inr e.symm)⟩), if_pos (by simp [List.isPrefixOf])]
          have := fin_semi 10 7 1 [35] (x :: ds) t rfl hr
          simp only [List.length_cons] at this ⊢
          rw [show 1 + (ds.length + 1) + 2 = ds.length + 1 + 1 + 2 by omega] at this
          exact this
    · have hN : (if (a :: r : List UInt8).head? = some 35 then chk (sharp (List.drop 1 (a :: r))) else -1) = -1 := by rw [if_neg (by simpa using ha)]
      rw [hN, if_pos rfl, if_neg (by simp [List.isPrefixOf]; exact ⟨fun e => absurd e.symm ha, fun e => absurd e.symm ha⟩), if_neg (by simp [List.isPrefixOf]; exact fun e => ha e.symm)]
/-- There is none where no semicolon stands near. -/
theorem refQ_none (l : List UInt8) (h : (59 : UInt8) ∉ l.take 9) : refQ l = (-1, 0) := by
  have hget : ∀ i, i < 9 → l[i]? ≠ some 59 := by
    intro i hi he
    apply h
    refine List.mem_of_getElem? (i := i) ?_
    rw [List.getElem?_take_of_lt hi, he]
  have hpre : ∀ (x : List UInt8), x.length < 9 → ¬ (x ++ [59]).isPrefixOf l = true := by
    intro x hx hp
    rw [List.isPrefixOf_iff_prefix] at hp
    obtain ⟨r, hr⟩ := hp
    apply hget x.length hx
    rw [← hr, List.append_assoc, List.getElem?_append_right (Nat.le_refl _)]
    simp
  have hfin : ∀ (at' k : Nat) (p : Int), at' + k < 9 → fin l at' k p = (-1, 0) := by
    intro at' k p hk
    unfold fin
    rw [if_neg]
    rintro ⟨_, h2, _⟩
    exact hget _ hk h2
  have g16 := digs_length 16 6 (l.drop 2)
  have g10 := digs_length 10 7 (l.drop 1)
  unfold refQ
  rw [if_neg (show ¬ ([97, 109, 112, 59].isPrefixOf l = true) from hpre [97, 109, 112] (by decide)), if_neg (show ¬ ([108, 116, 59].isPrefixOf l = true) from hpre [108, 116] (by decide)), if_neg (show ¬ ([103, 116, 59].isPrefixOf l = true) from hpre [103, 116] (by decide)), if_neg (show ¬ ([113, 117, 111, 116, 59].isPrefixOf l = true) from hpre [113, 117, 111, 116] (by decide)), if_neg (show ¬ ([97, 112, 111, 115, 59].isPrefixOf l = true) from hpre [97, 112, 111, 115] (by decide)), hfin _ _ _ (by omega), hfin _ _ _ (by omega)]
  split
  · rfl
  · split <;> rfl
/-- What a reference stands for is a code point, and it is short. -/
theorem refQ_ok (l : List UInt8) : (refQ l = (-1, 0)) ∨ (isPt (refQ l).1 = true ∧ 3 ≤ (refQ l).2 ∧ (refQ l).2 ≤ l.length + 1 ∧ 1 ≤ (refQ l).1) := by
  by_cases h : (59 : UInt8) ∈ l.take 9
  · have hm : (59 : UInt8) ∈ l := List.mem_of_mem_take h
    obtain ⟨nm, t, rfl, hn⟩ := List.eq_append_cons_of_mem hm
    rw [refQ_name nm t hn]
    by_cases hp : nameP nm = -1
    · rw [if_pos hp]; exact .inl rfl
    · rw [if_neg hp]
      refine .inr ?_
      have hne : nm ≠ [] := by
        rintro rfl
        exact hp (by decide)
      have hl : 0 < nm.length := List.length_pos_iff.2 hne
      have hpt : isPt (nameP nm) = true ∧ 1 ≤ nameP nm := by
        unfold nameP at hp ⊢
        repeat' split
        all_goals first | decide | skip
        · rename_i h35
          unfold chk at hp ⊢
          split
          · rename_i hc; exact ⟨hc.2, hc.1⟩
          · exfalso
            rename_i n1 n2 n3 n4 n5 hc
            rw [if_neg n1, if_neg n2, if_neg n3, if_neg n4, if_neg n5, if_pos h35, if_neg hc] at hp
            exact hp rfl
        · exfalso
          rename_i n1 n2 n3 n4 n5 hc
          rw [if_neg n1, if_neg n2, if_neg n3, if_neg n4, if_neg n5, if_neg hc] at hp
          exact hp rfl
      refine ⟨hpt.1, by simp only; omega, ?_, hpt.2⟩
      simp only [List.length_append, List.length_cons]
      omega
  · exact .inl (refQ_none l h)

/-! What is left of a text of which the references are replaced. -/
def unhN : Nat → List UInt8 → List UInt8
  | 0, _ => []
  | _ + 1, [] => []
  | f + 1, c :: r => if c = 38 then (if (refQ r).1 < 0 then 38 :: unhN f r else encodeRune (refQ r).1 ++ unhN f (r.drop ((refQ r).2 - 1))) else c :: unhN f r
def unh (l : List UInt8) : List UInt8 := unhN l.length l
theorem unhN_fuel : ∀ (n m : Nat) (l : List UInt8), l.length ≤ n → l.length ≤ m → unhN n l = unhN m l
  | 0, 0, _, _, _ => rfl
  | 0, m + 1, l, h, _ => by
    have : l = [] := List.eq_nil_of_length_eq_zero (by omega)
    subst this; rfl
  | n + 1, 0, l, _, h => by
    have : l = [] := List.eq_nil_of_length_eq_zero (by omega)
    subst this; rfl
  | n + 1, m + 1, [], _, _ => rfl
  | n + 1, m + 1, c :: r, h1, h2 => by
    simp only [List.length_cons] at h1 h2
    unfold unhN
    rw [unhN_fuel n m r (by omega) (by omega), unhN_fuel n m (r.drop ((refQ r).2 - 1)) (by rw [List.length_drop]; omega) (by rw [List.length_drop]; omega)]
theorem unh_nil : unh [] = [] := rfl
theorem unh_cons (c : UInt8) (r : List UInt8) : unh (c :: r) = if c = 38 then (if (refQ r).1 < 0 then 38 :: unh r else encodeRune (refQ r).1 ++ unh (r.drop ((refQ r).2 - 1))) else c :: unh r := by
  unfold unh
  show unhN (r.length + 1) (c :: r) = _
  rw [unhN]
  rw [unhN_fuel r.length (r.drop ((refQ r).2 - 1)).length _ (by rw [List.length_drop]; omega) (Nat.le_refl _)]
theorem unh_pass (r : List UInt8) : ∀ a : List UInt8, (38 : UInt8) ∉ a → unh (a ++ r) = a ++ unh r
  | [], _ => rfl
  | c :: a, h => by
    rw [List.cons_append, unh_cons, if_neg (fun e : c = 38 => h (by rw [e]; exact List.mem_cons_self)), unh_pass r a (fun e => h (List.mem_cons_of_mem _ e)), List.cons_append]
theorem unh_amp (r : List UInt8) (h : (refQ r).1 < 0) : unh (38 :: r) = 38 :: unh r := by rw [unh_cons, if_pos rfl, if_pos h]
theorem unh_ref (r : List UInt8) (h : ¬ (refQ r).1 < 0) : unh (38 :: r) = encodeRune (refQ r).1 ++ unh (r.drop ((refQ r).2 - 1)) := by rw [unh_cons, if_pos rfl, if_neg h]

/-! Bytes of code points. -/
theorem encodeRune_ascii (p : Int) (h0 : 0 ≤ p) (h1 : p ≤ 127) : encodeRune p = [p.toNat.toUInt8] := by
  simp [encodeRune, encodeRuneZ_one h0 h1]
theorem encodeRune_high (p : Int) (hp : isPt p = true) (h : 128 ≤ p) : ∀ c ∈ encodeRune p, 128 ≤ c.toNat := by
  rw [isPt_iff] at hp
  obtain ⟨_, h1, h2⟩ := hp
  intro c hc
  by_cases b : p ≤ 2047
  · simp only [encodeRune, encodeRuneZ_two (by omega) b, List.map_cons, List.map_nil, List.mem_cons, List.not_mem_nil, or_false] at hc
    rcases hc with rfl | rfl <;> rw [u8_toNat _ (by omega)] <;> omega
  · by_cases c' : p ≤ 65535
    · simp only [encodeRune, encodeRuneZ_three (show (2048 ≤ p ∧ p < 55296) ∨ (57343 < p ∧ p ≤ 65535) by omega), List.map_cons, List.map_nil, List.mem_cons, List.not_mem_nil, or_false] at hc
      rcases hc with rfl | rfl | rfl <;> rw [u8_toNat _ (by omega)] <;> omega
    · simp only [encodeRune, encodeRuneZ_four (show 65536 ≤ p by omega) h1, List.map_cons, List.map_nil, List.mem_cons, List.not_mem_nil, or_false] at hc
      rcases hc with rfl | rfl | rfl | rfl <;> rw [u8_toNat _ (by omega)] <;> omega
theorem encodeRune_mem (p : Int) (hp : isPt p = true) (c : UInt8) (hc : c ∈ encodeRune p) (h : c.toNat < 128) : p = c.toNat := by
  have h0 := ((isPt_iff p).1 hp).1
  by_cases a : p ≤ 127
  · rw [encodeRune_ascii p h0 a, List.mem_singleton] at hc
    subst hc
    rw [u8_toNat _ (by omega)]
    omega
  · have := encodeRune_high p hp (by omega) c hc
    omega
theorem enc_mem (l : List Int) (hl : AllPt l) (c : UInt8) (hc : c ∈ enc l) (h : c.toNat < 128) : (c.toNat : Int) ∈ l := by
  obtain ⟨p, hp, hc⟩ := List.mem_flatMap.1 hc
  rw [← encodeRune_mem p (hl p hp) c hc h]
  exact hp

/-- What is written is read again. -/
theorem unh_hP (p : Int) (hp : isPt p = true) (r : List UInt8) : unh (enc (hP p) ++ r) = encodeRune p ++ unh r := by
  unfold hP
  split
  · subst p
    have e : enc [38, 97, 109, 112, 59] = [38, 97, 109, 112, 59] := by decide
    have q : refQ ([97, 109, 112] ++ 59 :: r) = _ := refQ_name [97, 109, 112] r (by decide)
    rw [show nameP [97, 109, 112] = 38 by decide] at q
    rw [e]
    show unh (38 :: ([97, 109, 112] ++ 59 :: r)) = _
    rw [unh_ref _ (by rw [q]; decide), q]
    rfl
  split
  · subst p
    have e : enc [38, 108, 116, 59] = [38, 108, 116, 59] := by decide
    have q : refQ ([108, 116] ++ 59 :: r) = _ := refQ_name [108, 116] r (by decide)
    rw [show nameP [108, 116] = 60 by decide] at q
    rw [e]
    show unh (38 :: ([108, 116] ++ 59 :: r)) = _
    rw [unh_ref _ (by rw [q]; decide), q]
    rfl
  split
  · subst p
    have e : enc [38, 103, 116, 59] = [38, 103, 116, 59] := by decide
    have q : refQ ([103, 116] ++ 59 :: r) = _ := refQ_name [103, 116] r (by decide)
    rw [show nameP [103, 116] = 62 by decide] at q
    rw [e]
    show unh (38 :: ([103, 116] ++ 59 :: r)) = _
    rw [unh_ref _ (by rw [q]; decide), q]
    rfl
  split
  · subst p
    have e : enc [38, 113, 117, 111, 116, 59] = [38, 113, 117, 111, 116, 59] := by decide
    have q : refQ ([113, 117, 111, 116] ++ 59 :: r) = _ := refQ_name [113, 117, 111, 116] r (by decide)
    rw [show nameP [113, 117, 111, 116] = 34 by decide] at q
    rw [e]
    show unh (38 :: ([113, 117, 111, 116] ++ 59 :: r)) = _
    rw [unh_ref _ (by rw [q]; decide), q]
    rfl
  split
  · subst p
    have e : enc [38, 35, 51, 57, 59] = [38, 35, 51, 57, 59] := by decide
    have q : refQ ([35, 51, 57] ++ 59 :: r) = _ := refQ_name [35, 51, 57] r (by decide)
    rw [show nameP [35, 51, 57] = 39 by decide] at q
    rw [e]
    show unh (38 :: ([35, 51, 57] ++ 59 :: r)) = _
    rw [unh_ref _ (by rw [q]; decide), q]
    rfl
  · have e : enc [p] = encodeRune p := by simp [enc]
    rw [e, unh_pass]
    intro hc
    have := encodeRune_mem p hp 38 hc (by decide)
    have : p = 38 := this
    contradiction
theorem unh_html : ∀ (l : List Int), AllPt l → unh (enc (html l)) = enc l
  | [], _ => rfl
  | p :: l, h => by
    rw [html_cons, enc_append, unh_hP p (h p List.mem_cons_self), unh_html l (fun q hq => h q (List.mem_cons_of_mem _ hq)), enc_cons]
end Go.Proofs.YtklcjimmbkpbdaaGreatDoor
namespace Go.Proofs.YtklcjimmbkpbdaaGreatDoor
open Go.Lib

/-- A lower hexadecimal digit. -/
def hexL : List UInt8 := [48, 49, 50, 51, 52, 53, 54, 55, 56, 57, 97, 98, 99, 100, 101, 102]
/-- An upper hexadecimal digit. -/
def hexU : List UInt8 := [48, 49, 50, 51, 52, 53, 54, 55, 56, 57, 65, 66, 67, 68, 69, 70]
def hx (n : Nat) : UInt8 := hexL.getD n 0
def hU (n : Nat) : UInt8 := hexU.getD n 0
theorem hx_dig : ∀ n, n < 16 → digN (hx n) = n := by
  intro n h
  have : ∀ m : Fin 16, digN (hx m.1) = m.1 := by decide
  exact this ⟨n, h⟩
theorem hx_bd : ∀ n, n < 16 → 48 ≤ (hx n).toNat ∧ (hx n).toNat ≤ 102 ∧ (hx n).toNat ≠ 60 ∧ (hx n).toNat ≠ 62 := by
  intro n h
  have : ∀ m : Fin 16, 48 ≤ (hx m.1).toNat ∧ (hx m.1).toNat ≤ 102 ∧ (hx m.1).toNat ≠ 60 ∧ (hx m.1).toNat ≠ 62 := by decide
  exact this ⟨n, h⟩
/-- The four digits of a number below 65536. -/
def hex4 (n : Nat) : List UInt8 := [hx (n / 4096 % 16), hx (n / 256 % 16), hx (n / 16 % 16), hx (n % 16)]
/-- Is a code point told by its number? -/
def told (p : Int) : Bool := decide (p < 32 ∨ p = 127 ∨ p = 8232 ∨ p = 8233 ∨ p = 60 ∨ p = 62 ∨ p = 38)
/-- A code point in JSON, as code points. -/
def jP (p : Int) : List Int :=
  if p = 34 then [92, 34] else if p = 92 then [92, 92] else if p = 10 then [92, 110] else if p = 13 then [92, 114] else if p = 9 then [92, 116]
  else if told p = true then [92, 117] ++ (hex4 p.toNat).map (fun c => (c.toNat : Int)) else [p]
def jsn (l : List Int) : List Int := l.flatMap jP
theorem jsn_cons (p : Int) (l : List Int) : jsn (p :: l) = jP p ++ jsn l := by simp [jsn]
theorem jsn_append (a b : List Int) : jsn (a ++ b) = jsn a ++ jsn b := by simp [jsn]
theorem jP_length (p : Int) : (jP p).length ≤ 6 := by
  unfold jP; repeat' split
  all_goals simp [hex4]
theorem jsn_length (l : List Int) : (jsn l).length ≤ 6 * l.length := flat_length jP_length l
theorem isPt_ascii (c : UInt8) (h : c.toNat < 128) : isPt (c.toNat : Int) = true := by rw [isPt_iff]; omega
theorem hex4_mem (n : Nat) (c : UInt8) (h : c ∈ hex4 n) : 48 ≤ c.toNat ∧ c.toNat ≤ 102 ∧ c.toNat ≠ 60 ∧ c.toNat ≠ 62 := by
  simp only [hex4, List.mem_cons, List.not_mem_nil, or_false] at h
  rcases h with rfl | rfl | rfl | rfl <;> exact hx_bd _ (by omega)
theorem jP_mem (p q : Int) (hq : q ∈ jP p) : (q = p ∧ 32 ≤ q ∧ q ≠ 60 ∧ q ≠ 62 ∧ q ≠ 38) ∨ (32 ≤ q ∧ q < 128 ∧ q ≠ 60 ∧ q ≠ 62 ∧ q ≠ 38) := by
  unfold jP at hq
  split at hq
  · simp at hq; omega
  split at hq
  · simp at hq; omega
  split at hq
  · simp at hq; omega
  split at hq
  · simp at hq; omega
  split at hq
  · simp at hq; omega
  split at hq
  · rcases List.mem_append.1 hq with h | h
    · simp at h; omega
    · obtain ⟨c, hc, rfl⟩ := List.mem_map.1 h
      have := hex4_mem _ c hc
      omega
  · rename_i ht
    simp [told] at ht
    simp at hq
    omega
theorem jP_pt (p : Int) (h : isPt p = true) : AllPt (jP p) := by
  intro q hq
  rcases jP_mem p q hq with ⟨rfl, _⟩ | h
  · exact h
  · rw [isPt_iff]; omega
theorem jsn_pt {l : List Int} (h : AllPt l) : AllPt (jsn l) := flat_pt jP_pt h
theorem jsn_no (l : List Int) (q : Int) (hq : q ∈ jsn l) : 32 ≤ q ∧ q ≠ 60 ∧ q ≠ 62 ∧ q ≠ 38 := by
  obtain ⟨p, _, hq⟩ := List.mem_flatMap.1 hq
  rcases jP_mem p q hq with h | h <;> omega
theorem enc_ascii : ∀ (l : List UInt8), (∀ c ∈ l, c.toNat < 128) → enc (l.map fun c => (c.toNat : Int)) = l
  | [], _ => rfl
  | c :: l, h => by
    have hc := h c List.mem_cons_self
    rw [List.map_cons, enc_cons, enc_ascii l (fun d hd => h d (List.mem_cons_of_mem _ hd)), encodeRune_ascii _ (by omega) (by omega)]
    simp

/-! What a text in quotes stands for. -/
/-- The number of a \u and its four digits, or -1. -/
def unitQ (l : List UInt8) : Int := if l.length < 6 ∨ l[0]? ≠ some 92 ∨ l[1]? ≠ some 117 then -1 else numP 16 4 ((l.drop 2).take 4)
/-- The code point of what begins with a backslash and how many bytes it has, or -1. -/
def escQ (l : List UInt8) : Int × Nat :=
  match l[1]? with
  | none => (-1, 0)
  | some c =>
    if c = 34 then (34, 2) else if c = 92 then (92, 2) else if c = 47 then (47, 2) else if c = 98 then (8, 2) else if c = 102 then (12, 2) else if c = 110 then (10, 2) else if c = 114 then (13, 2) else if c = 116 then (9, 2)
    else if 55296 ≤ unitQ l ∧ unitQ l ≤ 56319 then (if 56320 ≤ unitQ (l.drop 6) ∧ unitQ (l.drop 6) ≤ 57343 then (65536 + (unitQ l - 55296) * 1024 + (unitQ (l.drop 6) - 56320), 12) else (-1, 0))
    else if isPt (unitQ l) = true then (unitQ l, 6) else (-1, 0)
theorem valD16_4 (ds : List UInt8) (h : ds.length ≤ 4) (hall : ds.all (isD 16) = true) : 0 ≤ valD 16 ds ∧ valD 16 ds ≤ 65535 := by
  have hd : ∀ c ∈ ds, 0 ≤ digN c ∧ digN c < 16 := fun c hc => by
    have := List.all_eq_true.1 hall c hc
    simpa [isD] using this
  match ds, h with
  | [], _ => decide
  | [a], _ => have := hd a (by simp); simp [valD]; omega
  | [a, b], _ => have := hd a (by simp); have := hd b (by simp); simp [valD]; omega
  | [a, b, c], _ => have := hd a (by simp); have := hd b (by simp); have := hd c (by simp); simp [valD]; omega
  | [a, b, c, d], _ => have := hd a (by simp); have := hd b (by simp); have := hd c (by simp); have := hd d (by simp); simp [valD]; omega
theorem numP16_4 (ds : List UInt8) : -1 ≤ numP 16 4 ds ∧ numP 16 4 ds ≤ 65535 := by
  unfold numP
  split
  · omega
  · rename_i h
    have h2 : ds.length ≤ 4 := by
      apply Decidable.byContradiction; intro hh; exact h (.inr (.inl (by omega)))
    have h3 : ds.all (isD 16) = true := by
      cases hh : ds.all (isD 16) with
      | true => rfl
      | false => exact absurd (.inr (.inr hh)) h
    have := valD16_4 ds h2 h3
    omega
theorem unitQ_bd (l : List UInt8) : -1 ≤ unitQ l ∧ unitQ l ≤ 65535 := by
  unfold unitQ
  split
  · omega
  · exact numP16_4 _
theorem unitQ_len (l : List UInt8) (h : 0 ≤ unitQ l) : 6 ≤ l.length ∧ (∀ c ∈ l.take 6, c.toNat < 128) := by
  unfold unitQ at h
  split at h
  · omega
  · rename_i hc
    have h6 : 6 ≤ l.length := by
      apply Decidable.byContradiction; intro hh; exact hc (.inl (by omega))
    refine ⟨h6, ?_⟩
    have h0 : l[0]? = some 92 := by
      apply Decidable.byContradiction; intro hh; exact hc (.inr (.inl hh))
    have h1 : l[1]? = some 117 := by
      apply Decidable.byContradiction; intro hh; exact hc (.inr (.inr hh))
    match l, h0, h1 with
    | a :: b :: r, h0, h1 =>
      simp at h0 h1
      subst h0; subst h1
      intro c hcm
      simp only [List.take_succ_cons, List.mem_cons] at hcm
      rcases hcm with rfl | rfl | hm
      · decide
      · decide
      · simp only [List.drop_succ_cons, List.drop_zero] at h
        unfold numP at h
        split at h
        · omega
        · rename_i hn
          have hall : (r.take 4).all (isD 16) = true := by
            cases hh : (r.take 4).all (isD 16) with
            | true => rfl
            | false => exact absurd (.inr (.inr hh)) hn
          have := List.all_eq_true.1 hall c hm
          simp [isD] at this
          have h2 := this.1
          unfold digN at h2
          repeat' split at h2
          all_goals omega
def EscOk (l : List UInt8) (e : Int × Nat) : Prop := e = (-1, 0) ∨ (isPt e.1 = true ∧ 2 ≤ e.2 ∧ e.2 ≤ l.length ∧ e.2 ≤ 12 ∧ ∀ c ∈ l.take e.2, c.toNat < 128)
theorem escQ_ok' (r : List UInt8) (c : UInt8) : EscOk (92 :: c :: r) (escQ (92 :: c :: r)) := by
  have two : ∀ (p : Int) (c : UInt8), c.toNat < 128 → isPt p = true → EscOk (92 :: c :: r) (p, 2) := by
    intro p c hc hp
    refine .inr ⟨hp, by simp, by simp, by simp, ?_⟩
    intro d hd
    simp at hd
    rcases hd with rfl | rfl
    · decide
    · exact hc
  have hu := unitQ_len (92 :: c :: r)
  have hv := unitQ_len ((92 :: c :: r).drop 6)
  have hb := unitQ_bd (92 :: c :: r)
  unfold escQ
  show EscOk (92 :: c :: r) (if c = 34 then (34, 2) else _)
  split
  · rename_i h; subst h; exact two _ _ (by decide) (by decide)
  split
  · rename_i h; subst h; exact two _ _ (by decide) (by decide)
  split
  · rename_i h; subst h; exact two _ _ (by decide) (by decide)
  split
  · rename_i h; subst h; exact two _ _ (by decide) (by decide)
  split
  · rename_i h; subst h; exact two _ _ (by decide) (by decide)
  split
  · rename_i h; subst h; exact two _ _ (by decide) (by decide)
  split
  · rename_i h; subst h; exact two _ _ (by decide) (by decide)
  split
  · rename_i h; subst h; exact two _ _ (by decide) (by decide)
  split
  · rename_i h1
    split
    · rename_i h2
      obtain ⟨g1, g2⟩ := hu (by omega)
      obtain ⟨g3, g4⟩ := hv (by have := h2.1; simp only [List.drop_succ_cons] at *; omega)
      refine .inr ⟨by rw [isPt_iff]; simp only; omega, by simp, ?_, by simp, ?_⟩
      · rw [List.length_drop] at g3; simp only; omega
      · intro d hd
        simp only at hd
        rw [show (12 : Nat) = 6 + 6 from rfl, List.take_add] at hd
        rcases List.mem_append.1 hd with hd | hd
        · exact g2 d hd
        · exact g4 d hd
    · exact .inl rfl
  split
  · rename_i h2
    have := (isPt_iff _).1 h2
    obtain ⟨g1, g2⟩ := hu (by omega)
    exact .inr ⟨h2, by simp, by simp only; omega, by simp, g2⟩
  · exact .inl rfl
theorem escQ_ok : ∀ (l : List UInt8), EscOk (92 :: l) (escQ (92 :: l))
  | [] => .inl rfl
  | c :: r => escQ_ok' r c
def unjN : Nat → List UInt8 → Option (List UInt8)
  | 0, _ => some []
  | _ + 1, [] => some []
  | f + 1, c :: r => if c.toNat < 32 ∨ c = 34 then none else if c ≠ 92 then (unjN f r).map (c :: ·) else if (escQ (c :: r)).1 < 0 then none else (unjN f ((c :: r).drop (escQ (c :: r)).2)).map (encodeRune (escQ (c :: r)).1 ++ ·)
def unj (l : List UInt8) : Option (List UInt8) := unjN l.length l
theorem unjN_fuel : ∀ (n m : Nat) (l : List UInt8), l.length ≤ n → l.length ≤ m → unjN n l = unjN m l
  | 0, 0, _, _, _ => rfl
  | 0, m + 1, l, h, _ => by
    have : l = [] := List.eq_nil_of_length_eq_zero (by omega)
    subst this; rfl
  | n + 1, 0, l, _, h => by
    have : l = [] := List.eq_nil_of_length_eq_zero (by omega)
    subst this; rfl
  | n + 1, m + 1, [], _, _ => rfl
  | n + 1, m + 1, c :: r, h1, h2 => by
    simp only [List.length_cons] at h1 h2
    unfold unjN
    rw [unjN_fuel n m r (by omega) (by omega)]
    by_cases hc : c = 92
    · subst hc
      rcases escQ_ok r with h | ⟨_, h, _⟩
      · rw [h]; simp
      · rw [unjN_fuel n m ((92 :: r).drop (escQ (92 :: r)).2) (by rw [List.length_drop, List.length_cons]; omega) (by rw [List.length_drop, List.length_cons]; omega)]
    · simp [hc]
theorem unj_nil : unj [] = some [] := rfl
theorem unj_cons (c : UInt8) (r : List UInt8) : unj (c :: r) = if c.toNat < 32 ∨ c = 34 then none else if c ≠ 92 then (unj r).map (c :: ·) else if (escQ (c :: r)).1 < 0 then none else (unj ((c :: r).drop (escQ (c :: r)).2)).map (encodeRune (escQ (c :: r)).1 ++ ·) := by
  unfold unj
  show unjN (r.length + 1) (c :: r) = _
  rw [unjN]
  by_cases hc : c = 92
  · subst hc
    rcases escQ_ok r with h | ⟨_, h, _⟩
    · rw [h]; simp
    · rw [unjN_fuel r.length ((92 :: r).drop (escQ (92 :: r)).2).length _ (by rw [List.length_drop, List.length_cons]; omega) (Nat.le_refl _)]
  · simp [hc]
theorem unj_bad (c : UInt8) (r : List UInt8) (h : c.toNat < 32 ∨ c = 34) : unj (c :: r) = none := by rw [unj_cons, if_pos h]
theorem unj_pass (r : List UInt8) : ∀ a : List UInt8, (∀ c ∈ a, ¬ (c.toNat < 32 ∨ c = 34) ∧ c ≠ 92) → unj (a ++ r) = (unj r).map (a ++ ·)
  | [], _ => by simp
  | c :: a, h => by
    have hc := h c List.mem_cons_self
    rw [List.cons_append, unj_cons, if_neg hc.1, if_pos hc.2, unj_pass r a (fun d hd => h d (List.mem_cons_of_mem _ hd)), Option.map_map]
    rfl
theorem unj_none (r : List UInt8) (h : (escQ (92 :: r)).1 < 0) : unj (92 :: r) = none := by rw [unj_cons, if_neg (by decide), if_neg (by decide), if_pos h]
theorem unj_esc (r : List UInt8) (h : ¬ (escQ (92 :: r)).1 < 0) : unj (92 :: r) = (unj ((92 :: r).drop (escQ (92 :: r)).2)).map (encodeRune (escQ (92 :: r)).1 ++ ·) := by rw [unj_cons, if_neg (by decide), if_neg (by decide), if_neg h]

/-- What is written is read again. -/
theorem unitQ_hex (n : Nat) (hn : n < 65536) (r : List UInt8) : unitQ (92 :: 117 :: (hex4 n ++ r)) = n := by
  have e0 := hx_dig (n / 4096 % 16) (by omega)
  have e1 := hx_dig (n / 256 % 16) (by omega)
  have e2 := hx_dig (n / 16 % 16) (by omega)
  have e3 := hx_dig (n % 16) (by omega)
  unfold unitQ
  rw [if_neg (by simp [hex4])]
  have e : (List.drop 2 (92 :: 117 :: (hex4 n ++ r))).take 4 = hex4 n := by simp [hex4]
  rw [e]
  unfold numP
  rw [if_neg]
  · simp only [hex4, valD, List.foldl_cons, List.foldl_nil]
    rw [e0, e1, e2, e3]
    omega
  · rintro (h | h | h)
    · simp [hex4] at h
    · simp [hex4] at h
    · have : (hex4 n).all (isD 16) = true := by
        simp only [hex4, List.all_cons, List.all_nil, isD, e0, e1, e2, e3, Bool.and_true, Bool.and_eq_true, decide_eq_true_eq]
        omega
      rw [this] at h; cases h
theorem unj_jP (p : Int) (hp : isPt p = true) (r : List UInt8) : unj (enc (jP p) ++ r) = (unj r).map (encodeRune p ++ ·) := by
  have two : ∀ (c : UInt8) (q : Int), escQ (92 :: c :: r) = (q, 2) → ¬ q < 0 → unj (92 :: c :: r) = (unj r).map (encodeRune q ++ ·) := by
    intro c q h hq
    rw [unj_esc (c :: r) (by rw [h]; exact hq), h]
    rfl
  have h0 := ((isPt_iff p).1 hp).1
  unfold jP
  split
  · subst p; rw [show enc [92, 34] = [92, 34] by decide]; exact two 34 34 rfl (by decide)
  split
  · subst p; rw [show enc [92, 92] = [92, 92] by decide]; exact two 92 92 rfl (by decide)
  split
  · subst p; rw [show enc [92, 110] = [92, 110] by decide]; exact two 110 10 rfl (by decide)
  split
  · subst p; rw [show enc [92, 114] = [92, 114] by decide]; exact two 114 13 rfl (by decide)
  split
  · subst p; rw [show enc [92, 116] = [92, 116] by decide]; exact two 116 9 rfl (by decide)
  split
  · rename_i ht
    have hb : p < 55296 := by simp [told] at ht; omega
    rw [enc_append, show enc [92, 117] = [92, 117] by decide, enc_ascii _ (fun c hc => by have := hex4_mem _ c hc; omega)]
    have hu := unitQ_hex p.toNat (by omega) r
    have he : escQ (92 :: 117 :: (hex4 p.toNat ++ r)) = (p, 6) := by
      have hpp : ((p.toNat : Nat) : Int) = p := by omega
      rw [hpp] at hu
      unfold escQ
      simp only [List.getElem?_cons_succ, List.getElem?_cons_zero]
      rw [hu, if_neg (by decide), if_neg (by decide), if_neg (by decide), if_neg (by decide), if_neg (by decide), if_neg (by decide), if_neg (by decide), if_neg (by decide), if_neg (by omega), if_pos hp]
    show unj (92 :: (117 :: (hex4 p.toNat ++ r))) = _
    rw [unj_esc _ (by rw [he]; simp; omega), he]
    simp [hex4]
  · rename_i n1 n2 n3 n4 n5 ht
    simp [told] at ht
    rw [show enc [p] = encodeRune p by simp [enc]]
    refine unj_pass r _ (fun c hc => ?_)
    by_cases hlt : c.toNat < 128
    · have := encodeRune_mem p hp c hc hlt
      refine ⟨?_, ?_⟩
      · rintro (h | h)
        · omega
        · subst h; exact n1 this
      · rintro rfl; exact n2 this
    · refine ⟨?_, ?_⟩
      · rintro (h | h)
        · omega
        · subst h; exact hlt (by decide)
      · rintro rfl; exact hlt (by decide)
theorem unj_jsn : ∀ (l : List Int), AllPt l → unj (enc (jsn l)) = some (enc l)
  | [], _ => rfl
  | p :: l, h => by
    rw [jsn_cons, enc_append, unj_jP p (h p List.mem_cons_self), unj_jsn l (fun q hq => h q (List.mem_cons_of_mem _ hq)), enc_cons]
    rfl

/-! Percent texts. -/
def stays (c : UInt8) : Bool := decide (97 ≤ c.toNat ∧ c.toNat ≤ 122 ∨ 65 ≤ c.toNat ∧ c.toNat ≤ 90 ∨ 48 ≤ c.toNat ∧ c.toNat ≤ 57 ∨ c.toNat = 45 ∨ c.toNat = 46 ∨ c.toNat = 95 ∨ c.toNat = 126)
def pct1 (c : UInt8) : List UInt8 := if stays c = true then [c] else [37, hU (c.toNat / 16), hU (c.toNat % 16)]
def pct (l : List UInt8) : List UInt8 := l.flatMap pct1
theorem pct_append (a b : List UInt8) : pct (a ++ b) = pct a ++ pct b := by simp [pct]
theorem pct_snoc (a : List UInt8) (c : UInt8) : pct (a ++ [c]) = pct a ++ pct1 c := by simp [pct]
theorem pct_length (l : List UInt8) : (pct l).length ≤ 3 * l.length := by
  induction l with
  | nil => simp [pct]
  | cons c l ih =>
    have h : (pct1 c).length ≤ 3 := by unfold pct1; split <;> simp
    have e : pct (c :: l) = pct1 c ++ pct l := by simp [pct]
    rw [e, List.length_append, List.length_cons]; omega

/-! Texts. -/
theorem txt_drop_ascii (l : List Int) (hl : AllPt l) (c : UInt8) (r : List UInt8) (h : enc l = c :: r) (hc : c.toNat < 128) : ∃ l', AllPt l' ∧ r = enc l' := by
  match l, hl with
  | [], _ => cases h
  | p :: l, hl =>
    have hp := hl p List.mem_cons_self
    have h0 := ((isPt_iff p).1 hp).1
    have hmem : c ∈ encodeRune p := by
      have hpos := (encodeRune_length p).1
      rw [enc_cons] at h
      match he : encodeRune p with
      | [] => rw [he] at hpos; simp at hpos
      | d :: t => rw [he] at h; cases h; exact List.mem_cons_self
    have hpc := encodeRune_mem p hp c hmem hc
    rw [enc_cons, encodeRune_ascii p h0 (by omega)] at h
    cases h
    exact ⟨l, fun q hq => hl q (List.mem_cons_of_mem _ hq), rfl⟩
/-- The bytes are the text of code points. -/
def IsTxt (l : List UInt8) : Prop := ∃ zs, AllPt zs ∧ l = enc zs
theorem isTxt_of_valid (l : List UInt8) (h : validD l = true) : IsTxt l := ⟨pts l, pts_allPt l, ((valid_iff l).1 h).symm⟩
theorem isTxt_drop : ∀ (n : Nat) (l : List UInt8), IsTxt l → (∀ c ∈ l.take n, c.toNat < 128) → IsTxt (l.drop n)
  | 0, l, h, _ => h
  | n + 1, [], h, _ => h
  | n + 1, c :: r, ⟨zs, hz, he⟩, hc => by
    obtain ⟨l', h1, h2⟩ := txt_drop_ascii zs hz c r he.symm (hc c (by simp))
    exact isTxt_drop n r ⟨l', h1, h2⟩ (fun d hd => hc d (by simp [hd]))
theorem isTxt_front (l : List UInt8) (c : UInt8) (hc : c.toNat < 128) (h : IsTxt (l ++ [c])) : IsTxt l := by
  obtain ⟨zs, hz, he⟩ := h
  rcases List.eq_nil_or_concat zs with rfl | ⟨ys, z, rfl⟩
  · simp [enc] at he
  · have hpz := hz z (by simp)
    have h0 := ((isPt_iff z).1 hpz).1
    have e1 : enc (ys ++ [z]) = enc ys ++ encodeRune z := by rw [enc_append]; simp [enc]
    rw [List.concat_eq_append] at he
    rw [e1] at he
    by_cases a : z ≤ 127
    · rw [encodeRune_ascii z h0 a] at he
      have := List.append_inj_left' he rfl
      exact ⟨ys, fun q hq => hz q (by simp [hq]), this⟩
    · exfalso
      have hne : encodeRune z ≠ [] := fun e => by have := (encodeRune_length z).1; rw [e] at this; simp at this
      have hlast : (encodeRune z).getLast hne = c := by
        have := congrArg List.getLast? he
        rw [List.getLast?_append, List.getLast?_append, List.getLast?_eq_some_getLast hne] at this
        simpa using this.symm
      have := encodeRune_high z hpz (by omega) c (by rw [← hlast]; exact List.getLast_mem hne)
      omega
theorem isTxt_head (c : UInt8) (r : List UInt8) (h : IsTxt (c :: r)) (hc : 128 ≤ c.toNat) : ∃ z, isPt z = true ∧ 128 ≤ z ∧ decodeL (c :: r) = (z.toNat, (encodeRune z).length) ∧ c :: r = encodeRune z ++ (c :: r).drop (encodeRune z).length ∧ IsTxt ((c :: r).drop (encodeRune z).length) := by
  obtain ⟨zs, hz, he⟩ := h
  match zs, hz with
  | [], _ => cases he
  | z :: zs, hz =>
    have hpz := hz z List.mem_cons_self
    have h0 := ((isPt_iff z).1 hpz).1
    rw [enc_cons] at he
    have h128 : 128 ≤ z := by
      apply Decidable.byContradiction
      intro hlt
      rw [encodeRune_ascii z h0 (by omega)] at he
      cases he
      rw [u8_toNat _ (by omega)] at hc
      omega
    refine ⟨z, hpz, h128, ?_, ?_, ?_⟩
    · rw [he, decode_enc z hpz]
    · rw [he, List.drop_left]
    · rw [he, List.drop_left]
      exact ⟨zs, fun q hq => hz q (List.mem_cons_of_mem _ hq), rfl⟩
end Go.Proofs.YtklcjimmbkpbdaaGreatDoor
