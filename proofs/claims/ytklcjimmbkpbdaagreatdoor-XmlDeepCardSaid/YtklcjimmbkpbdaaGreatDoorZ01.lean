/-
  Of the proofs of layer 8 (elements of XML): the parts Plain EscP EscQ EscJ XmP XmQ XmR. No conditions.
-/
import Derived.Lib.RuneBytes
import Derived.Lib.RuneCount
import Derived.Lib.ValidLaws
import Derived.Lib.TrimUEq
import Derived.Lib.MapLaws
namespace Go.Proofs.YtklcjimmbkpbdaaGreatDoor
open Go.Lib
theorem zA8 {α : Type _} (l : List α) (i : Nat) (a : α) : l.toArray.setIfInBounds i a = (l.set i a).toArray := List.setIfInBounds_toArray ..
theorem zB8 {α : Type _} (a : α) (l : List α) (b : α) : (a :: l).set 0 b = b :: l := rfl
theorem zC8 {α : Type _} (a : α) (l : List α) (n : Nat) (b : α) : (a :: l).set (n + 1) b = a :: l.set n b := rfl
def stepsN : Nat → List UInt8 → List (Nat × Nat)
 | 0, _ => []
 | f + 1, l => if l = [] then [] else decodeL l :: stepsN f (l.drop (decodeL l).2)
def steps (l : List UInt8) : List (Nat × Nat) := stepsN l.length l
theorem stepsN_nil (n : Nat) : stepsN n [] = [] := by cases n <;> simp [stepsN]
theorem stepsN_fuel : ∀ (n m : Nat) (l : List UInt8), l.length ≤ n → l.length ≤ m → stepsN n l = stepsN m l
 | 0, m, l, h, _ => by
  have : l = [] := List.eq_nil_of_length_eq_zero (by omega)
  subst this
  rw [stepsN_nil, stepsN_nil]
 | n + 1, 0, l, _, h => by
  have : l = [] := List.eq_nil_of_length_eq_zero (by omega)
  subst this
  rw [stepsN_nil, stepsN_nil]
 | n + 1, m + 1, l, h1, h2 => by
  unfold stepsN
  by_cases hl : l = []
  ·simp [hl]
  ·have hw := decodeL_width l
   have hp : 0 < l.length := List.length_pos_iff.2 hl
   rw [if_neg hl, if_neg hl, stepsN_fuel n m (l.drop (decodeL l).2) (by rw [List.length_drop]; omega) (by rw [List.length_drop]; omega)]
theorem steps_cons (l : List UInt8) (hl : l ≠ []) : steps l = decodeL l :: steps (l.drop (decodeL l).2) := by
 have hp : 0 < l.length := List.length_pos_iff.2 hl
 have hw := decodeL_width l
 obtain ⟨n, hn⟩ : ∃ n, l.length = n + 1 := ⟨l.length - 1, by omega⟩
 unfold steps
 rw [hn]
 show (if l = [] then [] else decodeL l :: stepsN n (l.drop (decodeL l).2)) = _
 rw [if_neg hl, stepsN_fuel n (l.drop (decodeL l).2).length _ (by rw [List.length_drop]; omega) (Nat.le_refl _)]
theorem steps_length_le (l : List UInt8) : (steps l).length ≤ l.length := by
 have : ∀ n (l : List UInt8), (stepsN n l).length ≤ n := by
  intro n
  induction n with
  | zero => intro l; simp [stepsN]
  | succ n ih =>
   intro l
   unfold stepsN
   split
   ·simp
   ·have := ih (l.drop (decodeL l).2)
    simp only [List.length_cons]; omega
 exact this _ _
def pts (l : List UInt8) : List Int := (steps l).map fun d => (d.1 : Int)
def raw1 (d : Nat × Nat) : Int := if d.1 = 65533 ∧ d.2 = 1 then -1 else (d.1 : Int)
def raws (l : List UInt8) : List Int := (steps l).map raw1
def enc (l : List Int) : List UInt8 := l.flatMap encodeRune
def isPt (p : Int) : Bool := decide (0 ≤ p) && decide (p ≤ 1114111) && (decide (p < 55296) || decide (57343 < p))
def AllPt (l : List Int) : Prop := ∀ p ∈ l, isPt p = true
theorem isPt_iff (p : Int) : isPt p = true ↔ (0 ≤ p ∧ p ≤ 1114111 ∧ (p < 55296 ∨ 57343 < p)) := by
 simp [isPt, and_assoc]
theorem pts_nil : pts [] = [] := rfl
theorem pts_cons (l : List UInt8) (hl : l ≠ []) : pts l = ((decodeL l).1 : Int) :: pts (l.drop (decodeL l).2) := by
 unfold pts; rw [steps_cons l hl]; rfl
theorem raws_cons (l : List UInt8) (hl : l ≠ []) : raws l = raw1 (decodeL l) :: raws (l.drop (decodeL l).2) := by
 unfold raws; rw [steps_cons l hl]; rfl
theorem pts_length_le (l : List UInt8) : (pts l).length ≤ l.length := by
 unfold pts; rw [List.length_map]; exact steps_length_le l
theorem raws_length (l : List UInt8) : (raws l).length = (pts l).length := by simp [pts, raws]
theorem enc_cons (p : Int) (l : List Int) : enc (p :: l) = encodeRune p ++ enc l := by simp [enc]
theorem enc_append (a b : List Int) : enc (a ++ b) = enc a ++ enc b := by simp [enc]
theorem encodeRune_length (p : Int) : 1 ≤ (encodeRune p).length ∧ (encodeRune p).length ≤ 4 := by
 have := encodeRuneZ_length p
 simpa [encodeRune] using this
theorem enc_length_le : ∀ l : List Int, (enc l).length ≤ 4 * l.length
 | [] => by simp [enc]
 | p :: l => by
  have := encodeRune_length p
  have := enc_length_le l
  rw [enc_cons, List.length_append, List.length_cons]; omega
theorem decode_isPt (l : List UInt8) : isPt ((decodeL l).1 : Int) = true := by
 rw [isPt_iff, decodeL_N]
 generalize l.length = n
 have h0 : (l.getD 0 0).toNat < 256 := UInt8.toNat_lt _
 generalize (l.getD 0 0).toNat = b0 at *
 generalize (l.getD 1 0).toNat = b1
 generalize (l.getD 2 0).toNat = b2
 generalize (l.getD 3 0).toNat = b3
 unfold decodeN
 repeat' split
 all_goals (simp only; omega)
theorem pts_allPt (l : List UInt8) : AllPt (pts l) := by
 have : ∀ n (l : List UInt8), ∀ d ∈ stepsN n l, isPt (d.1 : Int) = true := by
  intro n
  induction n with
  | zero => intro l d hd; simp [stepsN] at hd
  | succ n ih =>
   intro l d hd
   unfold stepsN at hd
   split at hd
   ·simp at hd
   ·rcases List.mem_cons.1 hd with rfl | hd
    ·exact decode_isPt l
    ·exact ih _ _ hd
 intro p hp
 unfold pts at hp
 obtain ⟨d, hd, rfl⟩ := List.mem_map.1 hp
 exact this _ _ d hd
theorem u8_toNat (x : Int) (h : 0 ≤ x ∧ x < 256) : (x.toNat.toUInt8).toNat = x.toNat := by
 rw [Nat.toUInt8_eq, UInt8.toNat_ofNat']; omega
theorem decode_enc (p : Int) (hp : isPt p = true) (r : List UInt8) : decodeL (encodeRune p ++ r) = (p.toNat, (encodeRune p).length) := by
 rw [isPt_iff] at hp
 obtain ⟨h0, h1, h2⟩ := hp
 rw [decodeL_N]
 by_cases a : p ≤ 127
 ·simp only [encodeRune, encodeRuneZ_one h0 a, List.map_cons, List.map_nil, List.cons_append, List.nil_append, List.length_cons, List.length_nil, List.getD_cons_zero]
  rw [u8_toNat p (by omega)]
  have : p.toNat < 128 := by omega
  simp [decodeN, this]
 ·by_cases b : p ≤ 2047
  ·have e0 := u8_toNat (192 + p / 64) (by omega)
   have e1 := u8_toNat (128 + p % 64) (by omega)
   simp only [encodeRune, encodeRuneZ_two (by omega) b, List.map_cons, List.map_nil, List.cons_append, List.nil_append, List.length_cons, List.length_nil, List.getD_cons_zero, List.getD_cons_succ]
   rw [e0, e1]
   generalize (r.getD 0 0).toNat = b2
   generalize (r.getD 1 0).toNat = b3
   generalize r.length = n
   unfold decodeN
   repeat' split
   all_goals first | (exfalso; omega) | (apply Prod.ext <;> simp only <;> omega)
  ·by_cases c : p ≤ 65535
   ·have e0 := u8_toNat (224 + p / 4096) (by omega)
    have e1 := u8_toNat (128 + p / 64 % 64) (by omega)
    have e2 := u8_toNat (128 + p % 64) (by omega)
    simp only [encodeRune, encodeRuneZ_three (show (2048 ≤ p ∧ p < 55296) ∨ (57343 < p ∧ p ≤ 65535) by omega), List.map_cons, List.map_nil, List.cons_append, List.nil_append, List.length_cons, List.length_nil, List.getD_cons_zero, List.getD_cons_succ]
    rw [e0, e1, e2]
    generalize (r.getD 0 0).toNat = b3
    generalize r.length = n
    unfold decodeN
    repeat' split
    all_goals first | (exfalso; omega) | (apply Prod.ext <;> simp only <;> omega)
   ·have e0 := u8_toNat (240 + p / 262144) (by omega)
    have e1 := u8_toNat (128 + p / 4096 % 64) (by omega)
    have e2 := u8_toNat (128 + p / 64 % 64) (by omega)
    have e3 := u8_toNat (128 + p % 64) (by omega)
    simp only [encodeRune, encodeRuneZ_four (show 65536 ≤ p by omega) h1, List.map_cons, List.map_nil, List.cons_append, List.nil_append, List.length_cons, List.length_nil, List.getD_cons_zero, List.getD_cons_succ]
    rw [e0, e1, e2, e3]
    generalize r.length = n
    unfold decodeN
    repeat' split
    all_goals first | (exfalso; omega) | (apply Prod.ext <;> simp only <;> omega)
theorem encodeRune_ne (p : Int) (r : List UInt8) : encodeRune p ++ r ≠ [] := by
 have := (encodeRune_length p).1
 intro h
 have h2 := congrArg List.length h
 simp at h2
 rw [h2.1] at this
 simp at this
theorem pts_enc : ∀ (l : List Int), AllPt l → ∀ r, pts (enc l ++ r) = l ++ pts r
 | [], _, r => by simp [enc]
 | p :: l, h, r => by
  have hp := h p List.mem_cons_self
  have h0 := ((isPt_iff p).1 hp).1
  rw [enc_cons, List.append_assoc, pts_cons _ (encodeRune_ne p _), decode_enc p hp]
  simp only [List.drop_left]
  rw [pts_enc l (fun q hq => h q (List.mem_cons_of_mem _ hq)) r, List.cons_append]
  congr 1
  omega
theorem pts_enc' (l : List Int) (h : AllPt l) : pts (enc l) = l := by
 have := pts_enc l h []
 simpa [pts_nil] using this
theorem valid_enc : ∀ (l : List Int), AllPt l → validD (enc l) = true
 | [], _ => rfl
 | p :: l, h => by
  have hp := h p List.mem_cons_self
  rw [enc_cons, validD_step _ (encodeRune_ne p _), decode_enc p hp]
  simp only [List.drop_left]
  rw [if_neg, valid_enc l (fun q hq => h q (List.mem_cons_of_mem _ hq))]
  rintro ⟨e1, e2⟩
  have : p = 65533 := by have := ((isPt_iff p).1 hp).1; omega
  subst this
  exact absurd e2 (by decide)
theorem enc_pts_of_valid : ∀ (n : Nat) (l : List UInt8), l.length ≤ n → validD l = true → enc (pts l) = l
 | 0, l, h, _ => by
  have : l = [] := List.eq_nil_of_length_eq_zero (by omega)
  subst this; rfl
 | n + 1, l, h, hv => by
  by_cases hl : l = []
  ·subst hl; rfl
  ·have hp : 0 < l.length := List.length_pos_iff.2 hl
   have hw := decodeL_width l
   rw [validD_step l hl] at hv
   split at hv
   ·cases hv
   ·rename_i hg
    rw [pts_cons l hl, enc_cons, encode_decode l hl hg, enc_pts_of_valid n (l.drop (decodeL l).2) (by rw [List.length_drop]; omega) hv, List.take_append_drop]
theorem raws_valid : ∀ (n : Nat) (l : List UInt8), l.length ≤ n → validD l = (raws l).all fun p => decide (0 ≤ p)
 | 0, l, h => by
  have : l = [] := List.eq_nil_of_length_eq_zero (by omega)
  subst this; rfl
 | n + 1, l, h => by
  by_cases hl : l = []
  ·subst hl; rfl
  ·have hp : 0 < l.length := List.length_pos_iff.2 hl
   have hw := decodeL_width l
   rw [validD_step l hl, raws_cons l hl, List.all_cons, ← raws_valid n (l.drop (decodeL l).2) (by rw [List.length_drop]; omega)]
   unfold raw1
   split
   ·simp
   ·simp
def fix (p : Int) : Int := if p < 0 then 65533 else p
theorem fix_raw1 (d : Nat × Nat) : fix (raw1 d) = (d.1 : Int) := by
 unfold fix raw1
 split <;> rename_i h
 ·rw [if_pos (by omega)]; omega
 ·rw [if_neg (by omega)]
theorem map_fix_raws (l : List UInt8) : (raws l).map fix = pts l := by
 simp [raws, pts, List.map_map, Function.comp_def, fix_raw1]
def inXml (p : Int) : Bool := decide (32 ≤ p ∧ p ≠ 65534 ∧ p ≠ 65535 ∨ p = 9 ∨ p = 10 ∨ p = 13)
def hP (p : Int) : List Int :=
 if p = 38 then [38, 97, 109, 112, 59] else if p = 60 then [38, 108, 116, 59] else if p = 62 then [38, 103, 116, 59] else if p = 34 then [38, 113, 117, 111, 116, 59] else if p = 39 then [38, 35, 51, 57, 59] else [p]
def html (l : List Int) : List Int := l.flatMap hP
theorem html_nil : html [] = [] := rfl
theorem html_cons (p : Int) (l : List Int) : html (p :: l) = hP p ++ html l := by simp [html]
theorem hP_length (p : Int) : (hP p).length ≤ 6 := by
 unfold hP; repeat' split
 all_goals simp
theorem flat_length {f : Int → List Int} {m : Nat} (h : ∀ p, (f p).length ≤ m) (l : List Int) : (l.flatMap f).length ≤ m * l.length := by
 induction l with
 | nil => simp
 | cons p l ih =>
  have := h p
  rw [List.flatMap_cons, List.length_append, List.length_cons, Nat.mul_succ]; omega
theorem html_length (l : List Int) : (html l).length ≤ 6 * l.length := flat_length hP_length l
def digN (c : UInt8) : Int := if 48 ≤ c.toNat ∧ c.toNat ≤ 57 then (c.toNat : Int) - 48 else if 97 ≤ c.toNat ∧ c.toNat ≤ 102 then (c.toNat : Int) - 87 else if 65 ≤ c.toNat ∧ c.toNat ≤ 70 then (c.toNat : Int) - 55 else -1
theorem digN_bd (c : UInt8) : -1 ≤ digN c ∧ digN c ≤ 15 := by unfold digN; repeat' split
                                                              all_goals omega
def isD (base : Int) (c : UInt8) : Bool := decide (0 ≤ digN c) && decide (digN c < base)
def valD (base : Int) (l : List UInt8) : Int := l.foldl (fun n c => n * base + digN c) 0
theorem valD_snoc (base : Int) (l : List UInt8) (c : UInt8) : valD base (l ++ [c]) = valD base l * base + digN c := by simp [valD]
theorem isD_59 (base : Int) : isD base 59 = false := by
 have : digN 59 = -1 := by decide
 simp [isD, this]
def numP (base : Int) (most : Nat) (l : List UInt8) : Int := if l = [] ∨ most < l.length ∨ l.all (isD base) = false then -1 else valD base l
def digs (base : Int) (most : Nat) (l : List UInt8) : List UInt8 := (l.take most).takeWhile (isD base)
theorem digs_length (base : Int) (most : Nat) (l : List UInt8) : (digs base most l).length ≤ most ∧ (digs base most l).length ≤ l.length := by
 unfold digs
 have h1 := (List.takeWhile_prefix (p := isD base) (l := l.take most)).length_le
 rw [List.length_take] at h1
 omega
theorem digs_all (base : Int) (most : Nat) (l : List UInt8) : ∀ c ∈ digs base most l, isD base c = true := fun c hc => by
 have := List.all_takeWhile (p := isD base) (l := l.take most)
 exact List.all_eq_true.1 this c hc
theorem digs_pre (base : Int) (most : Nat) (l : List UInt8) : digs base most l = l.take (digs base most l).length := by
 have h1 : digs base most l <+: l := (List.takeWhile_prefix _).trans (List.take_prefix _ _)
 exact List.prefix_iff_eq_take.1 h1
theorem digs_semi_eq (base : Int) (most : Nat) (ds t : List UInt8) (h : ¬ (ds = [] ∨ most < ds.length ∨ ds.all (isD base) = false)) : digs base most (ds ++ 59 :: t) = ds := by
 have h2 : ds.length ≤ most := by
  apply Decidable.byContradiction; intro hh; exact h (.inr (.inl (by omega)))
 have h3 : ds.all (isD base) = true := by
  cases hh : ds.all (isD base) with
  | true => rfl
  | false => exact absurd (.inr (.inr hh)) h
 unfold digs
 rw [List.take_append, List.take_of_length_le h2]
 rw [List.takeWhile_append_of_pos (fun c hc => List.all_eq_true.1 h3 c hc)]
 have : (List.takeWhile (isD base) (List.take (most - ds.length) (59 :: t))) = [] := by
  cases hm : most - ds.length with
  | zero => rfl
  | succ n => simp [isD_59]
 rw [this, List.append_nil]
theorem digs_semi (base : Int) (most : Nat) (ds t : List UInt8) (h59 : (59 : UInt8) ∉ ds) :
    ((digs base most (ds ++ 59 :: t)).length ≠ 0 ∧ (ds ++ 59 :: t)[(digs base most (ds ++ 59 :: t)).length]? = some 59) ↔ ¬ (ds = [] ∨ most < ds.length ∨ ds.all (isD base) = false) := by
 constructor
 ·rintro ⟨h0, h1⟩
  have hlen := digs_length base most (ds ++ 59 :: t)
  have hall := digs_all base most (ds ++ 59 :: t)
  have hpre := digs_pre base most (ds ++ 59 :: t)
  generalize digs base most (ds ++ 59 :: t) = g at *
  have hge : ds.length ≤ g.length := by
   apply Decidable.byContradiction
   intro hlt
   rw [List.getElem?_append_left (by omega)] at h1
   exact h59 (List.mem_of_getElem? h1)
  have hle : g.length ≤ ds.length := by
   apply Decidable.byContradiction
   intro hlt
   have : (59 : UInt8) ∈ g := by
    rw [hpre]
    refine List.mem_of_getElem? (i := ds.length) ?_
    rw [List.getElem?_take_of_lt (by omega), List.getElem?_append_right (Nat.le_refl _)]
    simp
   have := hall 59 this
   rw [isD_59] at this
   cases this
  have he : g.length = ds.length := by omega
  have hg : g = ds := by rw [hpre, he, List.take_left]
  subst hg
  rintro (h | h | h)
  ·subst h; exact h0 rfl
  ·omega
  ·have : g.all (isD base) = true := List.all_eq_true.2 hall
   rw [this] at h; cases h
 ·intro h
  have h1 : ds ≠ [] := fun e => h (.inl e)
  have hd := digs_semi_eq base most ds t h
  rw [hd]
  refine ⟨fun e => h1 (List.eq_nil_of_length_eq_zero e), ?_⟩
  rw [List.getElem?_append_right (Nat.le_refl _)]
  simp
def chk (n : Int) : Int := if 1 ≤ n ∧ isPt n = true then n else -1
def sharp (r : List UInt8) : Int := if r.head? = some 120 ∨ r.head? = some 88 then numP 16 6 (r.drop 1) else numP 10 7 r
def nameP (nm : List UInt8) : Int :=
 if nm = [97, 109, 112] then 38 else if nm = [108, 116] then 60 else if nm = [103, 116] then 62 else if nm = [113, 117, 111, 116] then 34 else if nm = [97, 112, 111, 115] then 39
 else if nm.head? = some 35 then chk (sharp (nm.drop 1)) else -1
def fin (l : List UInt8) (at' k : Nat) (p : Int) : Int × Nat := if k ≠ 0 ∧ l[at' + k]? = some 59 ∧ p ≠ 0 ∧ isPt p = true then (p, at' + k + 2) else (-1, 0)
def refQ (l : List UInt8) : Int × Nat :=
 if [97, 109, 112, 59].isPrefixOf l = true then (38, 5) else if [108, 116, 59].isPrefixOf l = true then (60, 4) else if [103, 116, 59].isPrefixOf l = true then (62, 4) else if [113, 117, 111, 116, 59].isPrefixOf l = true then (34, 6) else if [97, 112, 111, 115, 59].isPrefixOf l = true then (39, 6)
 else if [35, 120].isPrefixOf l = true ∨ [35, 88].isPrefixOf l = true then fin l 2 (digs 16 6 (l.drop 2)).length (valD 16 (digs 16 6 (l.drop 2)))
 else if [35].isPrefixOf l = true then fin l 1 (digs 10 7 (l.drop 1)).length (valD 10 (digs 10 7 (l.drop 1))) else (-1, 0)
theorem pre_semi (t : List UInt8) : ∀ (x nm : List UInt8), (59 : UInt8) ∉ x → (59 : UInt8) ∉ nm → ((x ++ [59]).isPrefixOf (nm ++ 59 :: t) = true ↔ nm = x)
 | [], [], _, _ => by simp
 | [], b :: nm, _, h => by
  simp only [List.nil_append, List.cons_append, List.isPrefixOf, Bool.and_eq_true, beq_iff_eq]
  constructor
  ·rintro ⟨e, _⟩; subst e; exact absurd List.mem_cons_self h
  ·intro e; cases e
 | a :: x, [], h, _ => by
  simp only [List.nil_append, List.cons_append, List.isPrefixOf, Bool.and_eq_true, beq_iff_eq]
  constructor
  ·rintro ⟨e, _⟩; subst e; exact absurd List.mem_cons_self h
  ·intro e; cases e
 | a :: x, b :: nm, h1, h2 => by
  have ih := pre_semi t x nm (fun e => h1 (List.mem_cons_of_mem _ e)) (fun e => h2 (List.mem_cons_of_mem _ e))
  simp only [List.cons_append, List.isPrefixOf, Bool.and_eq_true, beq_iff_eq, List.cons.injEq]
  rw [ih]
  constructor
  ·rintro ⟨rfl, rfl⟩; exact ⟨rfl, rfl⟩
  ·rintro ⟨rfl, rfl⟩; exact ⟨rfl, rfl⟩
theorem numP_neg (base : Int) (most : Nat) (ds : List UInt8) (h : ds = [] ∨ most < ds.length ∨ ds.all (isD base) = false) : numP base most ds = -1 := by unfold numP; rw [if_pos h]
theorem fin_semi (base : Int) (most at' : Nat) (hd ds t : List UInt8) (hh : hd.length = at') (h59 : (59 : UInt8) ∉ ds) :
    fin (hd ++ (ds ++ 59 :: t)) at' (digs base most (ds ++ 59 :: t)).length (valD base (digs base most (ds ++ 59 :: t))) = if chk (numP base most ds) = -1 then (-1, 0) else (chk (numP base most ds), at' + ds.length + 2) := by
 have hs := digs_semi base most ds t h59
 have hget : (hd ++ (ds ++ 59 :: t))[at' + (digs base most (ds ++ 59 :: t)).length]? = (ds ++ 59 :: t)[(digs base most (ds ++ 59 :: t)).length]? := by
  rw [List.getElem?_append_right (by omega)]
  congr 1
  omega
 unfold fin
 rw [hget]
 by_cases hg : ds = [] ∨ most < ds.length ∨ ds.all (isD base) = false
 ·rw [numP_neg _ _ _ hg, show chk (-1) = -1 by decide, if_pos rfl, if_neg]
  rintro ⟨h1, h2, _⟩
  exact hs.1 ⟨h1, h2⟩ hg
 ·have hq := hs.2 hg
  have hn : numP base most ds = valD base ds := by unfold numP; rw [if_neg hg]
  have he := digs_semi_eq base most ds t hg
  rw [he] at hq ⊢
  have hv : 0 ≤ valD base ds := by
   have hall : ds.all (isD base) = true := by
    cases hh : ds.all (isD base) with
    | true => rfl
    | false => exact absurd (.inr (.inr hh)) hg
   by_cases hb : 0 ≤ base
   ·have : ∀ (l : List UInt8) (n : Int), 0 ≤ n → (∀ c ∈ l, isD base c = true) → 0 ≤ l.foldl (fun n c => n * base + digN c) n := by
     intro l
     induction l with
     | nil => intro n hn _; exact hn
     | cons c l ih =>
      intro n hn hc
      refine ih _ ?_ (fun d hd => hc d (List.mem_cons_of_mem _ hd))
      have h1 := hc c List.mem_cons_self
      simp [isD] at h1
      have := Int.mul_nonneg hn hb
      show 0 ≤ n * base + digN c
      omega
    exact this ds 0 (Int.le_refl _) (List.all_eq_true.1 hall)
   ·exfalso
    have hne : ds ≠ [] := fun e => hg (.inl e)
    obtain ⟨c, l, rfl⟩ := List.exists_cons_of_ne_nil hne
    have h1 := List.all_eq_true.1 hall c List.mem_cons_self
    simp [isD] at h1
    omega
  rw [hn]
  by_cases hc : valD base ds ≠ 0 ∧ isPt (valD base ds) = true
  ·have hk : chk (valD base ds) = valD base ds := by unfold chk; rw [if_pos ⟨by omega, hc.2⟩]
   rw [hk, if_pos ⟨hq.1, hq.2, hc.1, hc.2⟩, if_neg (by omega)]
  ·have hk : chk (valD base ds) = -1 := by unfold chk; rw [if_neg]; rintro ⟨h1, h2⟩; exact hc ⟨by omega, h2⟩
   rw [hk, if_pos rfl, if_neg]
   rintro ⟨_, _, h3, h4⟩
   exact hc ⟨h3, h4⟩
theorem refQ_name (nm t : List UInt8) (h59 : (59 : UInt8) ∉ nm) : refQ (nm ++ 59 :: t) = if nameP nm = -1 then (-1, 0) else (nameP nm, nm.length + 2) := by
 have e1 := pre_semi t [97, 109, 112] nm (by decide) h59
 have e2 := pre_semi t [108, 116] nm (by decide) h59
 have e3 := pre_semi t [103, 116] nm (by decide) h59
 have e4 := pre_semi t [113, 117, 111, 116] nm (by decide) h59
 have e5 := pre_semi t [97, 112, 111, 115] nm (by decide) h59
 simp only [List.cons_append, List.nil_append] at e1 e2 e3 e4 e5
 unfold refQ nameP
 by_cases c1 : nm = [97, 109, 112]
 ·rw [if_pos (e1.2 c1), if_pos c1]; subst c1; rfl
 rw [if_neg (fun h => c1 (e1.1 h)), if_neg c1]
 by_cases c2 : nm = [108, 116]
 ·rw [if_pos (e2.2 c2), if_pos c2]; subst c2; rfl
 rw [if_neg (fun h => c2 (e2.1 h)), if_neg c2]
 by_cases c3 : nm = [103, 116]
 ·rw [if_pos (e3.2 c3), if_pos c3]; subst c3; rfl
 rw [if_neg (fun h => c3 (e3.1 h)), if_neg c3]
 by_cases c4 : nm = [113, 117, 111, 116]
 ·rw [if_pos (e4.2 c4), if_pos c4]; subst c4; rfl
 rw [if_neg (fun h => c4 (e4.1 h)), if_neg c4]
 by_cases c5 : nm = [97, 112, 111, 115]
 ·rw [if_pos (e5.2 c5), if_pos c5]; subst c5; rfl
 rw [if_neg (fun h => c5 (e5.1 h)), if_neg c5]
 clear e1 e2 e3 e4 e5 c1 c2 c3 c4 c5
 match nm, h59 with
 | [], _ => simp [List.isPrefixOf]
 | a :: r, h59 =>
  by_cases ha : a = 35
  ·subst ha
   have hr : (59 : UInt8) ∉ r := fun e => h59 (List.mem_cons_of_mem _ e)
   have hN : (if (35 :: r : List UInt8).head? = some 35 then chk (sharp (List.drop 1 (35 :: r))) else -1) = chk (sharp r) := rfl
   rw [hN]
   clear hN
   match r, hr with
   | [], _ =>
    rw [show chk (sharp []) = -1 by decide, if_pos rfl, if_neg (by simp [List.isPrefixOf]), if_pos (by simp [List.isPrefixOf])]
    have := fin_semi 10 7 1 [35] [] t rfl (by simp)
    rw [show chk (numP 10 7 []) = -1 by decide, if_pos rfl] at this
    exact this
   | x :: ds, hr =>
    have hds : (59 : UInt8) ∉ ds := fun e => hr (List.mem_cons_of_mem _ e)
    by_cases hx : x = 120 ∨ x = 88
    ·have hS : sharp (x :: ds) = numP 16 6 ds := by
      unfold sharp
      rw [if_pos (by simpa using hx)]
      rfl
     rw [hS, if_pos (by rcases hx with rfl | rfl <;> simp [List.isPrefixOf])]
     have := fin_semi 16 6 2 [35, x] ds t rfl hds
     simp only [List.length_cons]
     rw [show 2 + ds.length + 2 = ds.length + 1 + 1 + 2 by omega] at this
     exact this
    ·have hS : sharp (x :: ds) = numP 10 7 (x :: ds) := by
      unfold sharp
      rw [if_neg (by simpa using hx)]
     rw [hS, if_neg (by simp [List.isPrefixOf]; exact ⟨fun e => hx (.inl e.symm), fun e => hx (.inr e.symm)⟩), if_pos (by simp [List.isPrefixOf])]
     have := fin_semi 10 7 1 [35] (x :: ds) t rfl hr
     simp only [List.length_cons] at this ⊢
     rw [show 1 + (ds.length + 1) + 2 = ds.length + 1 + 1 + 2 by omega] at this
     exact this
  ·have hN : (if (a :: r : List UInt8).head? = some 35 then chk (sharp (List.drop 1 (a :: r))) else -1) = -1 := by rw [if_neg (by simpa using ha)]
   rw [hN, if_pos rfl, if_neg (by simp [List.isPrefixOf]; exact ⟨fun e => absurd e.symm ha, fun e => absurd e.symm ha⟩), if_neg (by simp [List.isPrefixOf]; exact fun e => ha e.symm)]
theorem refQ_none (l : List UInt8) (h : (59 : UInt8) ∉ l.take 9) : refQ l = (-1, 0) := by
 have hget : ∀ i, i < 9 → l[i]? ≠ some 59 := by
  intro i hi he
  apply h
  refine List.mem_of_getElem? (i := i) ?_
  rw [List.getElem?_take_of_lt hi, he]
 have hpre : ∀ (x : List UInt8), x.length < 9 → ¬ (x ++ [59]).isPrefixOf l = true := by
  intro x hx hp
  rw [List.isPrefixOf_iff_prefix] at hp
  obtain ⟨r, hr⟩ := hp
  apply hget x.length hx
  rw [← hr, List.append_assoc, List.getElem?_append_right (Nat.le_refl _)]
  simp
 have hfin : ∀ (at' k : Nat) (p : Int), at' + k < 9 → fin l at' k p = (-1, 0) := by
  intro at' k p hk
  unfold fin
  rw [if_neg]
  rintro ⟨_, h2, _⟩
  exact hget _ hk h2
 have g16 := digs_length 16 6 (l.drop 2)
 have g10 := digs_length 10 7 (l.drop 1)
 unfold refQ
 rw [if_neg (show ¬ ([97, 109, 112, 59].isPrefixOf l = true) from hpre [97, 109, 112] (by decide)), if_neg (show ¬ ([108, 116, 59].isPrefixOf l = true) from hpre [108, 116] (by decide)), if_neg (show ¬ ([103, 116, 59].isPrefixOf l = true) from hpre [103, 116] (by decide)), if_neg (show ¬ ([113, 117, 111, 116, 59].isPrefixOf l = true) from hpre [113, 117, 111, 116] (by decide)), if_neg (show ¬ ([97, 112, 111, 115, 59].isPrefixOf l = true) from hpre [97, 112, 111, 115] (by decide)), hfin _ _ _ (by omega), hfin _ _ _ (by omega)]
 split
 ·rfl
 ·split <;> rfl
theorem refQ_ok (l : List UInt8) : (refQ l = (-1, 0)) ∨ (isPt (refQ l).1 = true ∧ 3 ≤ (refQ l).2 ∧ (refQ l).2 ≤ l.length + 1 ∧ 1 ≤ (refQ l).1) := by
 by_cases h : (59 : UInt8) ∈ l.take 9
 ·have hm : (59 : UInt8) ∈ l := List.mem_of_mem_take h
  obtain ⟨nm, t, rfl, hn⟩ := List.eq_append_cons_of_mem hm
  rw [refQ_name nm t hn]
  by_cases hp : nameP nm = -1
  ·rw [if_pos hp]; exact .inl rfl
  ·rw [if_neg hp]
   refine .inr ?_
   have hne : nm ≠ [] := by
    rintro rfl
    exact hp (by decide)
   have hl : 0 < nm.length := List.length_pos_iff.2 hne
   have hpt : isPt (nameP nm) = true ∧ 1 ≤ nameP nm := by
    unfold nameP at hp ⊢
    repeat' split
    all_goals first | decide | skip
    ·rename_i h35
     unfold chk at hp ⊢
     split
     ·rename_i hc; exact ⟨hc.2, hc.1⟩
     ·exfalso
      rename_i n1 n2 n3 n4 n5 hc
      rw [if_neg n1, if_neg n2, if_neg n3, if_neg n4, if_neg n5, if_pos h35, if_neg hc] at hp
      exact hp rfl
    ·exfalso
     rename_i n1 n2 n3 n4 n5 hc
     rw [if_neg n1, if_neg n2, if_neg n3, if_neg n4, if_neg n5, if_neg hc] at hp
     exact hp rfl
   refine ⟨hpt.1, by simp only; omega, ?_, hpt.2⟩
   simp only [List.length_append, List.length_cons]
   omega
 ·exact .inl (refQ_none l h)
def unhN : Nat → List UInt8 → List UInt8
 | 0, _ => []
 | _ + 1, [] => []
 | f + 1, c :: r => if c = 38 then (if (refQ r).1 < 0 then 38 :: unhN f r else encodeRune (refQ r).1 ++ unhN f (r.drop ((refQ r).2 - 1))) else c :: unhN f r
def unh (l : List UInt8) : List UInt8 := unhN l.length l
theorem unhN_fuel : ∀ (n m : Nat) (l : List UInt8), l.length ≤ n → l.length ≤ m → unhN n l = unhN m l
 | 0, 0, _, _, _ => rfl
 | 0, m + 1, l, h, _ => by
  have : l = [] := List.eq_nil_of_length_eq_zero (by omega)
  subst this; rfl
 | n + 1, 0, l, _, h => by
  have : l = [] := List.eq_nil_of_length_eq_zero (by omega)
  subst this; rfl
 | n + 1, m + 1, [], _, _ => rfl
 | n + 1, m + 1, c :: r, h1, h2 => by
  simp only [List.length_cons] at h1 h2
  unfold unhN
  rw [unhN_fuel n m r (by omega) (by omega), unhN_fuel n m (r.drop ((refQ r).2 - 1)) (by rw [List.length_drop]; omega) (by rw [List.length_drop]; omega)]
theorem unh_nil : unh [] = [] := rfl
theorem unh_cons (c : UInt8) (r : List UInt8) : unh (c :: r) = if c = 38 then (if (refQ r).1 < 0 then 38 :: unh r else encodeRune (refQ r).1 ++ unh (r.drop ((refQ r).2 - 1))) else c :: unh r := by
 unfold unh
 show unhN (r.length + 1) (c :: r) = _
 rw [unhN]
 rw [unhN_fuel r.length (r.drop ((refQ r).2 - 1)).length _ (by rw [List.length_drop]; omega) (Nat.le_refl _)]
theorem unh_pass (r : List UInt8) : ∀ a : List UInt8, (38 : UInt8) ∉ a → unh (a ++ r) = a ++ unh r
 | [], _ => rfl
 | c :: a, h => by
  rw [List.cons_append, unh_cons, if_neg (fun e : c = 38 => h (by rw [e]; exact List.mem_cons_self)), unh_pass r a (fun e => h (List.mem_cons_of_mem _ e)), List.cons_append]
theorem unh_amp (r : List UInt8) (h : (refQ r).1 < 0) : unh (38 :: r) = 38 :: unh r := by rw [unh_cons, if_pos rfl, if_pos h]
theorem unh_ref (r : List UInt8) (h : ¬ (refQ r).1 < 0) : unh (38 :: r) = encodeRune (refQ r).1 ++ unh (r.drop ((refQ r).2 - 1)) := by rw [unh_cons, if_pos rfl, if_neg h]
theorem encodeRune_ascii (p : Int) (h0 : 0 ≤ p) (h1 : p ≤ 127) : encodeRune p = [p.toNat.toUInt8] := by
 simp [encodeRune, encodeRuneZ_one h0 h1]
def hexL : List UInt8 := [48, 49, 50, 51, 52, 53, 54, 55, 56, 57, 97, 98, 99, 100, 101, 102]
def hexU : List UInt8 := [48, 49, 50, 51, 52, 53, 54, 55, 56, 57, 65, 66, 67, 68, 69, 70]
def hx (n : Nat) : UInt8 := hexL.getD n 0
def hU (n : Nat) : UInt8 := hexU.getD n 0
def told (p : Int) : Bool := decide (p < 32 ∨ p = 127 ∨ p = 8232 ∨ p = 8233 ∨ p = 60 ∨ p = 62 ∨ p = 38)
def stays (c : UInt8) : Bool := decide (97 ≤ c.toNat ∧ c.toNat ≤ 122 ∨ 65 ≤ c.toNat ∧ c.toNat ≤ 90 ∨ 48 ≤ c.toNat ∧ c.toNat ≤ 57 ∨ c.toNat = 45 ∨ c.toNat = 46 ∨ c.toNat = 95 ∨ c.toNat = 126)
abbrev Bt := List UInt8
abbrev XA := Bt × Bt × Bt
inductive XV where
 | mk (space name : Bt) (attrs : List XA) (kids : List XV) (text : Bt)
def XV.space : XV → Bt | .mk s _ _ _ _ => s
def XV.name : XV → Bt | .mk _ n _ _ _ => n
def XV.attrs : XV → List XA | .mk _ _ a _ _ => a
def XV.kids : XV → List XV | .mk _ _ _ k _ => k
def XV.text : XV → Bt | .mk _ _ _ _ t => t
def zeroX : XV := .mk [] [] [] [] []
def textX (t : Bt) : XV := .mk [] [] [] [] t
def isBl (c : UInt8) : Bool := c == 32 || c == 9 || c == 10 || c == 13
def blanksL (s : Bt) : Bt := s.dropWhile isBl
def begB (c : UInt8) : Bool := decide (97 ≤ c.toNat ∧ c.toNat ≤ 122 ∨ 65 ≤ c.toNat ∧ c.toNat ≤ 90 ∨ c.toNat = 95 ∨ 128 ≤ c.toNat)
def goB (c : UInt8) : Bool := begB c || decide (48 ≤ c.toNat ∧ c.toNat ≤ 57 ∨ c.toNat = 45 ∨ c.toNat = 46)
def nameW : Bt → Nat
 | [] => 0
 | c :: r => if begB c = true then 1 + (r.takeWhile goB).length else 0
def isNameL : Bt → Bool
 | [] => false
 | c :: r => begB c && r.all goB
def wordL (w s : Bt) : Option Bt := if w.isPrefixOf s = true then some (s.drop w.length) else none
def toL (w : Bt) : Bt → Option (Bt × Bt)
 | [] => none
 | c :: r => if w.isPrefixOf (c :: r) = true then some ([], (c :: r).drop w.length) else (toL w r).map fun x => (c :: x.1, x.2)
def remL (s : Bt) : Option Bt := match toL [45, 45] s with | none => none | some (_, r) => wordL [62] r
def insL (s : Bt) : Option Bt := if nameW s = 0 then none else (toL [63, 62] (s.drop (nameW s))).map (·.2)
def asideL (s : Bt) : Option (Option Bt) :=
 match wordL [60, 33, 45, 45] s with
 | some r => (remL r).map some
 | none => match wordL [60, 63] s with
  | some r => (insL r).map some
  | none => some none
def aroundN : Nat → Bt → Option Bt
 | 0, _ => none
 | n + 1, s => match asideL (blanksL s) with
  | none => none
  | some none => some (blanksL s)
  | some (some r) => aroundN n r
def aroundL (s : Bt) : Option Bt := aroundN (s.length + 1) s
abbrev XN := Bt × Bt
def markL (s : Bt) : Option (XN × Bt) :=
 if nameW s = 0 then none else
  match wordL [58] (s.drop (nameW s)) with
  | none => some (([], s.take (nameW s)), s.drop (nameW s))
  | some r => if nameW r = 0 then none else some ((s.take (nameW s), r.take (nameW r)), r.drop (nameW r))
def linesL : Bt → Bt
 | [] => []
 | c :: r => if c = 13 then (if r.head? = some 10 then linesL r else 10 :: linesL r) else c :: linesL r
def refsN : Nat → Bt → Option Bt
 | 0, _ => some []
 | _ + 1, [] => some []
 | n + 1, c :: r => if c = 38 then (if (refQ r).2 = 0 ∨ inXml (refQ r).1 = false then none else (refsN n (r.drop ((refQ r).2 - 1))).map (encodeRune (refQ r).1 ++ ·)) else (refsN n r).map (c :: ·)
def refsL (l : Bt) : Option Bt := refsN l.length l
def valueL : Bt → Option (Bt × Bt)
 | [] => none
 | q :: r => if q = 34 ∨ q = 39 then (match toL [q] r with
  | none => none
  | some (v, r') => if (60 : UInt8) ∈ v then none else (refsL (linesL v)).map fun x => (x, r')) else none
abbrev XM := XN × Bt
def attrL (s : Bt) : Option (XM × Bt) :=
 match markL s with
 | none => none
 | some (m, r) => match wordL [61] (blanksL r) with
  | none => none
  | some r => (valueL (blanksL r)).map fun x => ((m, x.1), x.2)
def tagN : Nat → Bt → Option (List XM × Bool × Bt)
 | 0, _ => none
 | n + 1, s => match wordL [47, 62] (blanksL s) with
  | some r => some ([], true, r)
  | none => match wordL [62] (blanksL s) with
   | some r => some ([], false, r)
   | none => if (blanksL s).length = s.length then none else
    match attrL (blanksL s) with
    | none => none
    | some (m, r) => (tagN n r).map fun x => (m :: x.1, x.2)
def tagL (s : Bt) : Option (List XM × Bool × Bt) := tagN (s.length + 1) s
abbrev XS := List (Bt × Bt)
def xmlnsW : Bt := [120, 109, 108, 110, 115]
def xmlW : Bt := [120, 109, 108]
def nsW : Bt := [104, 116, 116, 112, 58, 47, 47, 119, 119, 119, 46, 119, 51, 46, 111, 114, 103, 47, 88, 77, 76, 47, 49, 57, 57, 56, 47, 110, 97, 109, 101, 115, 112, 97, 99, 101]
def scope0 : XS := [([], []), (xmlW, nsW)]
def findX : XS → Bt → Option Bt
 | [], _ => none
 | (q, v) :: l, p => match findX l p with
  | some x => some x
  | none => if q = p then some v else none
def declX (m : XM) : Option Bt := if m.1.1 = xmlnsW then some m.1.2 else if m.1.1 = [] ∧ m.1.2 = xmlnsW then some [] else none
def declsX (ms : List XM) : XS := ms.filterMap fun m => (declX m).map fun p => (p, m.2)
def othersX (ms : List XM) : List XM := ms.filter fun m => (declX m).isNone
def scopeX (sc : XS) (ms : List XM) : Option XS :=
 if (declsX ms).any (fun d => !(d.1 == []) && d.2 == []) = true ∨ ¬ ((declsX ms).map (·.1)).Nodup then none else some (sc ++ declsX ms)
def attrX (sc : XS) (m : XM) : Option XA := if m.1.1 = [] then some ([], m.1.2, m.2) else (findX sc m.1.1).map fun sp => (sp, m.1.2, m.2)
def mapX {α β : Type} (f : α → Option β) : List α → Option (List β)
 | [] => some []
 | a :: l => match f a with
  | none => none
  | some b => (mapX f l).map (b :: ·)
def uniqX (l : List XA) : Bool := decide (l.map fun a => (a.1, a.2.1)).Nodup
def startX (sc : XS) (nm : XN) (ms : List XM) : Option (XV × XS) :=
 match scopeX sc ms with
 | none => none
 | some sc' => match findX sc' nm.1 with
  | none => none
  | some sp => match mapX (attrX sc') (othersX ms) with
   | none => none
   | some l => if uniqX l = true then some (.mk sp nm.2 l [] [], sc') else none
def writtenX (nm : XN) : Bt := if nm.1 = [] then nm.2 else nm.1 ++ 58 :: nm.2
def endX (nm : XN) (s : Bt) : Option Bt := match wordL (writtenX nm) s with | none => none | some r => wordL [62] (blanksL r)
def allX (ks : List XV) (t : Bt) : List XV := if t = [] then ks else ks ++ [textX t]
def XV.withKids : XV → List XV → XV | .mk s n a _ t, ks => .mk s n a ks t
def cdataW : Bt := [60, 33, 91, 67, 68, 65, 84, 65, 91]
def cdendW : Bt := [93, 93, 62]
def ltN (c : UInt8) : Bool := !(c == 60)
def textL (s : Bt) : Option (Bt × Bt) :=
 if (toL cdendW (s.takeWhile ltN)).isSome = true ∨ s.dropWhile ltN = [] then none else (refsL (linesL (s.takeWhile ltN))).map fun x => (x, s.dropWhile ltN)
mutual
def elemN : Nat → Nat → XS → Bt → Except Int (XV × Bt)
 | 0, _, _, _ => .error 70
 | n + 1, d, sc, s => match markL s with
  | none => .error 70
  | some (nm, s1) => match tagL s1 with
   | none => .error 70
   | some (ms, closed, s2) => match startX sc nm ms with
    | none => .error 70
    | some (v, sc') => if d = 24 then .error 71 else if closed = true then .ok (v, s2) else
     match kidsN n (d + 1) sc' s2 [] [] with
     | .error e => .error e
     | .ok (ks, s3) => match endX nm s3 with
      | none => .error 70
      | some s4 => .ok (v.withKids ks, s4)
def kidsN : Nat → Nat → XS → Bt → List XV → Bt → Except Int (List XV × Bt)
 | 0, _, _, _, _, _ => .error 70
 | n + 1, d, sc, s, ks, t => match wordL [60, 47] s with
  | some r => .ok (allX ks t, r)
  | none => match wordL cdataW s with
   | some r => (match toL cdendW r with
    | none => .error 70
    | some (a, r') => kidsN n d sc r' ks (t ++ linesL a))
   | none => match asideL s with
    | none => .error 70
    | some (some r) => kidsN n d sc r ks t
    | some none => match wordL [60] s with
     | some r => (match elemN n d sc r with
      | .error e => .error e
      | .ok (v, r') => kidsN n d sc r' (allX ks t ++ [v]) [])
     | none => match textL s with
      | none => .error 70
      | some (x, r) => kidsN n d sc r ks (t ++ x)
end
def elemX (d : Nat) (sc : XS) (s : Bt) : Except Int (XV × Bt) := elemN (s.length + 1) d sc s
def kidsX (d : Nat) (sc : XS) (s : Bt) (ks : List XV) (t : Bt) : Except Int (List XV × Bt) := kidsN (s.length + 1) d sc s ks t
def bomW : Bt := [239, 187, 191]
def plainB (s : Bt) : Bool := enc ((pts s).filter inXml) == s
def docX (s : Bt) : XV × Int :=
 match aroundL s with
 | none => (zeroX, 70)
 | some s1 => match wordL [60] s1 with
  | none => (zeroX, 70)
  | some s2 => match elemX 0 scope0 s2 with
   | .error e => (zeroX, e)
   | .ok (v, s3) => match aroundL s3 with
    | none => (zeroX, 70)
    | some r => if r = [] then (v, 0) else (zeroX, 70)
def unbomL (b : Bt) : Bt := if bomW.isPrefixOf b = true then b.drop 3 else b
def parseX (b : Bt) : XV × Int :=
 if 65536 < b.length then (zeroX, 72) else if plainB (unbomL b) = true then docX (unbomL b) else (zeroX, 70)
theorem blanks_le (s : Bt) : (blanksL s).length ≤ s.length := (List.dropWhile_suffix _).length_le
theorem nameW_le (s : Bt) : nameW s ≤ s.length := by
 cases s with
 | nil => exact Nat.le_refl _
 | cons c r =>
  simp only [nameW]
  have := (List.takeWhile_prefix goB (l := r)).length_le
  split <;> simp only [List.length_cons] <;> omega
theorem word_len {w s r : Bt} (h : wordL w s = some r) : s.length = w.length + r.length := by
 unfold wordL at h
 split at h
 ·rename_i hp
  injection h with h
  have := (List.isPrefixOf_iff_prefix.1 hp).length_le
  rw [← h, List.length_drop]
  omega
 ·cases h
theorem to_len {w : Bt} : ∀ {s a r : Bt}, toL w s = some (a, r) → s.length = a.length + w.length + r.length
 | [], a, r, h => by cases h
 | c :: s, a, r, h => by
  unfold toL at h
  split at h
  ·rename_i hp
   injection h with h
   injection h with h1 h2
   have := (List.isPrefixOf_iff_prefix.1 hp).length_le
   rw [← h1, ← h2, List.length_drop]
   simp only [List.length_nil]
   omega
  ·cases ht : toL w s with
   | none => rw [ht] at h; cases h
   | some x =>
    rw [ht] at h
    injection h with h
    injection h with h1 h2
    have := to_len ht
    rw [← h1, ← h2]
    simp only [List.length_cons]
    omega
theorem rem_len {s r : Bt} (h : remL s = some r) : r.length < s.length := by
 unfold remL at h
 cases ht : toL [45, 45] s with
 | none => rw [ht] at h; cases h
 | some x =>
  obtain ⟨a, b⟩ := x
  rw [ht] at h
  have h1 := to_len ht
  have h2 := word_len h
  simp only [List.length_cons, List.length_nil] at h1 h2
  omega
theorem ins_len {s r : Bt} (h : insL s = some r) : r.length < s.length := by
 unfold insL at h
 split at h
 ·cases h
 ·cases ht : toL [63, 62] (s.drop (nameW s)) with
  | none => rw [ht] at h; cases h
  | some x =>
   rw [ht] at h
   injection h with h
   have h1 := to_len ht
   rw [List.length_drop] at h1
   simp only [List.length_cons, List.length_nil] at h1
   simp only at h
   subst h
   omega
theorem aside_len {s r : Bt} (h : asideL s = some (some r)) : r.length < s.length := by
 unfold asideL at h
 cases h1 : wordL [60, 33, 45, 45] s with
 | some x =>
  simp only [h1] at h
  have := word_len h1
  simp only [List.length_cons, List.length_nil] at this
  cases h2 : remL x with
  | none => simp only [h2] at h; cases h
  | some y =>
   simp only [h2, Option.map_some] at h
   injection h with h
   injection h with h
   have := rem_len h2
   subst h
   omega
 | none =>
  simp only [h1] at h
  cases h3 : wordL [60, 63] s with
  | some x =>
   simp only [h3] at h
   have := word_len h3
   simp only [List.length_cons, List.length_nil] at this
   cases h2 : insL x with
   | none => simp only [h2] at h; cases h
   | some y =>
    simp only [h2, Option.map_some] at h
    injection h with h
    injection h with h
    have := ins_len h2
    subst h
    omega
  | none => simp only [h3] at h; cases h
theorem mark_len {s r : Bt} {m : XN} (h : markL s = some (m, r)) : r.length < s.length := by
 unfold markL at h
 split at h
 ·cases h
 ·rename_i h0
  have hl := nameW_le s
  cases h1 : wordL [58] (s.drop (nameW s)) with
  | none =>
   rw [h1] at h
   injection h with h
   injection h with _ h
   rw [← h, List.length_drop]
   omega
  | some x =>
   simp only [h1] at h
   split at h
   ·cases h
   ·injection h with h
    injection h with _ h
    have := word_len h1
    rw [List.length_drop] at this
    simp only [List.length_cons, List.length_nil] at this
    rw [← h, List.length_drop]
    omega
theorem value_len {s v r : Bt} (h : valueL s = some (v, r)) : r.length < s.length := by
 cases s with
 | nil => cases h
 | cons q t =>
  simp only [valueL] at h
  split at h
  ·cases ht : toL [q] t with
   | none => rw [ht] at h; cases h
   | some x =>
    obtain ⟨a, b⟩ := x
    rw [ht] at h
    simp only at h
    split at h
    ·cases h
    ·cases hr : refsL (linesL a) with
     | none => rw [hr] at h; cases h
     | some y =>
      rw [hr] at h
      injection h with h
      injection h with _ h
      have := to_len ht
      rw [← h]
      simp only [List.length_cons, List.length_nil] at this ⊢
      omega
  ·cases h
theorem attr_len {s r : Bt} {m : XM} (h : attrL s = some (m, r)) : r.length < s.length := by
 unfold attrL at h
 cases h1 : markL s with
 | none => rw [h1] at h; cases h
 | some x =>
  obtain ⟨m1, r1⟩ := x
  simp only [h1] at h
  have l1 := mark_len h1
  have b1 := blanks_le r1
  cases h2 : wordL [61] (blanksL r1) with
  | none => rw [h2] at h; cases h
  | some r2 =>
   simp only [h2] at h
   have l2 := word_len h2
   have b2 := blanks_le r2
   cases h3 : valueL (blanksL r2) with
   | none => rw [h3] at h; cases h
   | some y =>
    obtain ⟨v, r3⟩ := y
    rw [h3] at h
    injection h with h
    injection h with _ h
    have l3 := value_len h3
    simp only [List.length_cons, List.length_nil] at l2
    simp only at h
    subst h
    omega
theorem tagN_len : ∀ (n : Nat) {s r : Bt} {ms : List XM} {c : Bool}, tagN n s = some (ms, c, r) → r.length < s.length
 | 0, s, r, ms, c, h => by cases h
 | n + 1, s, r, ms, c, h => by
  unfold tagN at h
  have hb := blanks_le s
  cases h1 : wordL [47, 62] (blanksL s) with
  | some x =>
   rw [h1] at h
   have := word_len h1
   simp only [List.length_cons, List.length_nil] at this
   injection h with h
   injection h with _ h
   injection h with _ h
   subst h
   omega
  | none =>
   simp only [h1] at h
   cases h2 : wordL [62] (blanksL s) with
   | some x =>
    rw [h2] at h
    have := word_len h2
    simp only [List.length_cons, List.length_nil] at this
    injection h with h
    injection h with _ h
    injection h with _ h
    subst h
    omega
   | none =>
    simp only [h2] at h
    split at h
    ·cases h
    ·cases h3 : attrL (blanksL s) with
     | none => rw [h3] at h; cases h
     | some x =>
      obtain ⟨m, r1⟩ := x
      simp only [h3] at h
      have l1 := attr_len h3
      cases h4 : tagN n r1 with
      | none => rw [h4] at h; cases h
      | some y =>
       obtain ⟨a, b, r2⟩ := y
       rw [h4] at h
       injection h with h
       injection h with _ h
       injection h with _ h
       have := tagN_len n h4
       subst h
       omega
theorem tag_len {s r : Bt} {ms : List XM} {c : Bool} (h : tagL s = some (ms, c, r)) : r.length < s.length := tagN_len _ h
theorem drop_lt_len (s : Bt) : (s.dropWhile ltN).length ≤ s.length := (List.dropWhile_suffix _).length_le
theorem end_len {nm : XN} {s r : Bt} (h : endX nm s = some r) : r.length < s.length := by
 unfold endX at h
 cases h1 : wordL (writtenX nm) s with
 | none => rw [h1] at h; cases h
 | some x =>
  rw [h1] at h
  have l1 := word_len h1
  have l2 := word_len h
  have b := blanks_le x
  simp only [List.length_cons, List.length_nil] at l2
  omega
theorem text_len {s x r : Bt} (h0 : wordL [60] s = none) (h : textL s = some (x, r)) : r.length < s.length := by
 unfold textL at h
 split at h
 ·cases h
 ·rename_i hn
  cases h1 : refsL (linesL (s.takeWhile ltN)) with
  | none => rw [h1] at h; cases h
  | some y =>
   rw [h1] at h
   injection h with h
   injection h with _ h
   subst h
   cases s with
   | nil => exact absurd (.inr rfl) hn
   | cons c t =>
    have hc : ltN c = true := by
     unfold ltN
     cases hcc : c == 60 with
     | false => rfl
     | true =>
      rw [beq_iff_eq] at hcc
      subst hcc
      rw [wordL, if_pos (by simp [List.isPrefixOf])] at h0
      cases h0
    rw [List.dropWhile_cons_of_pos hc]
    have := drop_lt_len t
    simp only [List.length_cons]
    omega
theorem aroundN_fuel : ∀ (n m : Nat) (s : Bt), s.length < n → s.length < m → aroundN n s = aroundN m s
 | 0, _, s, h, _ => absurd h (Nat.not_lt_zero _)
 | _ + 1, 0, s, _, h => absurd h (Nat.not_lt_zero _)
 | n + 1, m + 1, s, h1, h2 => by
  have hb := blanks_le s
  unfold aroundN
  cases ha : asideL (blanksL s) with
  | none => rfl
  | some o =>
   cases o with
   | none => rfl
   | some r =>
    have := aside_len ha
    exact aroundN_fuel n m r (by omega) (by omega)
theorem aroundL_eq (s : Bt) : aroundL s = match asideL (blanksL s) with | none => none | some none => some (blanksL s) | some (some r) => aroundL r := by
 have hb := blanks_le s
 show aroundN (s.length + 1) s = _
 unfold aroundN
 cases ha : asideL (blanksL s) with
 | none => rfl
 | some o =>
  cases o with
  | none => rfl
  | some r =>
   have := aside_len ha
   exact aroundN_fuel _ _ r (by omega) (by omega)
theorem refsN_fuel : ∀ (n m : Nat) (l : Bt), l.length ≤ n → l.length ≤ m → refsN n l = refsN m l
 | 0, 0, _, _, _ => rfl
 | 0, m + 1, l, h, _ => by
  have : l = [] := List.eq_nil_of_length_eq_zero (by omega)
  subst this; rfl
 | n + 1, 0, l, _, h => by
  have : l = [] := List.eq_nil_of_length_eq_zero (by omega)
  subst this; rfl
 | n + 1, m + 1, [], _, _ => rfl
 | n + 1, m + 1, c :: r, h1, h2 => by
  simp only [List.length_cons] at h1 h2
  unfold refsN
  rw [refsN_fuel n m r (by omega) (by omega), refsN_fuel n m (r.drop ((refQ r).2 - 1)) (by rw [List.length_drop]; omega) (by rw [List.length_drop]; omega)]
theorem refsL_nil : refsL [] = some [] := rfl
theorem refsL_cons (c : UInt8) (r : Bt) : refsL (c :: r) = if c = 38 then (if (refQ r).2 = 0 ∨ inXml (refQ r).1 = false then none else (refsL (r.drop ((refQ r).2 - 1))).map (encodeRune (refQ r).1 ++ ·)) else (refsL r).map (c :: ·) := by
 unfold refsL
 show refsN (r.length + 1) (c :: r) = _
 rw [refsN]
 rw [refsN_fuel r.length (r.drop ((refQ r).2 - 1)).length _ (by rw [List.length_drop]; omega) (Nat.le_refl _)]
theorem refs_pass (r : Bt) : ∀ a : Bt, (38 : UInt8) ∉ a → refsL (a ++ r) = (refsL r).map (a ++ ·)
 | [], _ => by simp
 | c :: a, h => by
  rw [List.cons_append, refsL_cons, if_neg (fun e : c = 38 => h (by rw [e]; exact List.mem_cons_self)), refs_pass r a (fun e => h (List.mem_cons_of_mem _ e)), Option.map_map]
  rfl
theorem refs_bad (r : Bt) (h : (refQ r).2 = 0 ∨ inXml (refQ r).1 = false) : refsL (38 :: r) = none := by rw [refsL_cons, if_pos rfl, if_pos h]
theorem refs_good (r : Bt) (h : ¬ ((refQ r).2 = 0 ∨ inXml (refQ r).1 = false)) : refsL (38 :: r) = (refsL (r.drop ((refQ r).2 - 1))).map (encodeRune (refQ r).1 ++ ·) := by rw [refsL_cons, if_pos rfl, if_neg h]
theorem tagN_fuel : ∀ (n m : Nat) (s : Bt), s.length < n → s.length < m → tagN n s = tagN m s
 | 0, _, s, h, _ => absurd h (Nat.not_lt_zero _)
 | _ + 1, 0, s, _, h => absurd h (Nat.not_lt_zero _)
 | n + 1, m + 1, s, h1, h2 => by
  have hb := blanks_le s
  unfold tagN
  cases wordL [47, 62] (blanksL s) with
  | some r => rfl
  | none =>
   cases wordL [62] (blanksL s) with
   | some r => rfl
   | none =>
    simp only
    split
    ·rfl
    ·cases ha : attrL (blanksL s) with
     | none => rfl
     | some x =>
      obtain ⟨a, r⟩ := x
      have := attr_len ha
      simp only
      rw [tagN_fuel n m r (by omega) (by omega)]
theorem tagL_eq (s : Bt) : tagL s = match wordL [47, 62] (blanksL s) with
    | some r => some ([], true, r)
    | none => match wordL [62] (blanksL s) with
     | some r => some ([], false, r)
     | none => if (blanksL s).length = s.length then none else
      match attrL (blanksL s) with
      | none => none
      | some (m, r) => (tagL r).map fun x => (m :: x.1, x.2) := by
 have hb := blanks_le s
 show tagN (s.length + 1) s = _
 unfold tagN
 cases wordL [47, 62] (blanksL s) with
 | some r => rfl
 | none =>
  cases wordL [62] (blanksL s) with
  | some r => rfl
  | none =>
   simp only
   split
   ·rfl
   ·cases ha : attrL (blanksL s) with
    | none => rfl
    | some x =>
     obtain ⟨a, r⟩ := x
     have := attr_len ha
     simp only
     rw [tagN_fuel s.length (r.length + 1) r (by omega) (by omega)]
     rfl
theorem kidsN_len : ∀ (n : Nat), (∀ {d : Nat} {sc : XS} {s r : Bt} {v : XV}, elemN n d sc s = .ok (v, r) → r.length < s.length) ∧ (∀ {d : Nat} {sc : XS} {s r : Bt} {ks l : List XV} {t : Bt}, kidsN n d sc s ks t = .ok (l, r) → r.length < s.length)
 | 0 => ⟨fun h => (by rw [elemN] at h; cases h), fun h => (by rw [kidsN] at h; cases h)⟩
 | n + 1 => by
  obtain ⟨ihE, ihK⟩ := kidsN_len n
  constructor
  ·intro d sc s r v h
   rw [elemN] at h
   cases h1 : markL s with
   | none => simp only [h1] at h; cases h
   | some x =>
    obtain ⟨nm, s1⟩ := x
    simp only [h1] at h
    have l1 := mark_len h1
    cases h2 : tagL s1 with
    | none => simp only [h2] at h; cases h
    | some y =>
     obtain ⟨ms, c, s2⟩ := y
     simp only [h2] at h
     have l2 := tag_len h2
     cases h3 : startX sc nm ms with
     | none => simp only [h3] at h; cases h
     | some z =>
      obtain ⟨v0, sc'⟩ := z
      simp only [h3] at h
      split at h
      ·cases h
      ·split at h
       ·injection h with h
        injection h with _ h
        subst h
        omega
       ·cases h4 : kidsN n (d + 1) sc' s2 [] [] with
        | error e => simp only [h4] at h; cases h
        | ok u =>
         obtain ⟨ks, s3⟩ := u
         simp only [h4] at h
         have l3 := ihK h4
         cases h5 : endX nm s3 with
         | none => simp only [h5] at h; cases h
         | some s4 =>
          simp only [h5] at h
          have l4 := end_len h5
          injection h with h
          injection h with _ h
          subst h
          omega
  ·intro d sc s r ks l t h
   rw [kidsN] at h
   cases h1 : wordL [60, 47] s with
   | some x =>
    simp only [h1] at h
    have l1 := word_len h1
    simp only [List.length_cons, List.length_nil] at l1
    injection h with h
    injection h with _ h
    subst h
    omega
   | none =>
    simp only [h1] at h
    cases h2 : wordL cdataW s with
    | some x =>
     simp only [h2] at h
     have l2 := word_len h2
     cases h3 : toL cdendW x with
     | none => simp only [h3] at h; cases h
     | some y =>
      obtain ⟨a, r'⟩ := y
      simp only [h3] at h
      have l3 := to_len h3
      have := ihK h
      omega
    | none =>
     simp only [h2] at h
     cases h3 : asideL s with
     | none => simp only [h3] at h; cases h
     | some o =>
      cases o with
      | some x =>
       simp only [h3] at h
       have := aside_len h3
       have := ihK h
       omega
      | none =>
       simp only [h3] at h
       cases h4 : wordL [60] s with
       | some x =>
        simp only [h4] at h
        have l4 := word_len h4
        cases h5 : elemN n d sc x with
        | error e => simp only [h5] at h; cases h
        | ok y =>
         obtain ⟨v, r'⟩ := y
         simp only [h5] at h
         have := ihE h5
         have := ihK h
         omega
       | none =>
        simp only [h4] at h
        cases h5 : textL s with
        | none => simp only [h5] at h; cases h
        | some y =>
         obtain ⟨x, r'⟩ := y
         simp only [h5] at h
         have := text_len h4 h5
         have := ihK h
         omega
theorem elem_len {n d : Nat} {sc : XS} {s r : Bt} {v : XV} (h : elemN n d sc s = .ok (v, r)) : r.length < s.length := (kidsN_len n).1 h
theorem kidsN_fuel : ∀ (n m : Nat), (∀ (d : Nat) (sc : XS) (s : Bt), s.length < n → s.length < m → elemN n d sc s = elemN m d sc s) ∧ (∀ (d : Nat) (sc : XS) (s : Bt) (ks : List XV) (t : Bt), s.length < n → s.length < m → kidsN n d sc s ks t = kidsN m d sc s ks t)
 | 0, _ => ⟨fun _ _ _ h _ => absurd h (Nat.not_lt_zero _), fun _ _ _ _ _ h _ => absurd h (Nat.not_lt_zero _)⟩
 | _ + 1, 0 => ⟨fun _ _ _ _ h => absurd h (Nat.not_lt_zero _), fun _ _ _ _ _ _ h => absurd h (Nat.not_lt_zero _)⟩
 | n + 1, m + 1 => by
  obtain ⟨ihE, ihK⟩ := kidsN_fuel n m
  constructor
  ·intro d sc s hn hm
   rw [elemN, elemN]
   cases h1 : markL s with
   | none => rfl
   | some x =>
    obtain ⟨nm, s1⟩ := x
    simp only
    have l1 := mark_len h1
    cases h2 : tagL s1 with
    | none => rfl
    | some y =>
     obtain ⟨ms, c, s2⟩ := y
     simp only
     have l2 := tag_len h2
     have hk : ∀ sc', kidsN n (d + 1) sc' s2 [] [] = kidsN m (d + 1) sc' s2 [] [] := fun sc' => ihK (d + 1) sc' s2 [] [] (by omega) (by omega)
     simp only [hk]
  ·intro d sc s ks t hn hm
   rw [kidsN, kidsN]
   cases h1 : wordL [60, 47] s with
   | some x => rfl
   | none =>
    simp only
    cases h2 : wordL cdataW s with
    | some x =>
     simp only
     have l2 := word_len h2
     cases h3 : toL cdendW x with
     | none => rfl
     | some y =>
      obtain ⟨a, r'⟩ := y
      simp only
      have l3 := to_len h3
      have lc : cdendW.length = 3 := rfl
      exact ihK _ _ _ _ _ (by omega) (by omega)
    | none =>
     simp only
     cases h3 : asideL s with
     | none => rfl
     | some o =>
      cases o with
      | some x =>
       simp only
       have := aside_len h3
       exact ihK _ _ _ _ _ (by omega) (by omega)
      | none =>
       simp only
       cases h4 : wordL [60] s with
       | some x =>
        simp only
        have l4 := word_len h4
        simp only [List.length_cons, List.length_nil] at l4
        rw [ihE d sc x (by omega) (by omega)]
        cases h5 : elemN m d sc x with
        | error e => rfl
        | ok y =>
         obtain ⟨v, r'⟩ := y
         simp only
         have := elem_len h5
         exact ihK _ _ _ _ _ (by omega) (by omega)
       | none =>
        simp only
        cases h5 : textL s with
        | none => rfl
        | some y =>
         obtain ⟨x, r'⟩ := y
         simp only
         have := text_len h4 h5
         exact ihK _ _ _ _ _ (by omega) (by omega)
theorem elemX_eq (d : Nat) (sc : XS) (s : Bt) : elemX d sc s = match markL s with
   | none => .error 70
   | some (nm, s1) => match tagL s1 with
      | none => .error 70
      | some (ms, closed, s2) => match startX sc nm ms with
       | none => .error 70
       | some (v, sc') => if d = 24 then .error 71 else if closed = true then .ok (v, s2) else
        match kidsX (d + 1) sc' s2 [] [] with
        | .error e => .error e
        | .ok (ks, s3) => match endX nm s3 with
         | none => .error 70
         | some s4 => .ok (v.withKids ks, s4) := by
 show elemN (s.length + 1) d sc s = _
 rw [elemN]
 cases h1 : markL s with
 | none => rfl
 | some x =>
  obtain ⟨nm, s1⟩ := x
  simp only
  have l1 := mark_len h1
  cases h2 : tagL s1 with
  | none => rfl
  | some y =>
   obtain ⟨ms, c, s2⟩ := y
   simp only
   have l2 := tag_len h2
   have hk : ∀ sc', kidsN s.length (d + 1) sc' s2 [] [] = kidsX (d + 1) sc' s2 [] [] := fun sc' => (kidsN_fuel s.length (s2.length + 1)).2 (d + 1) sc' s2 [] [] (by omega) (by omega)
   simp only [hk] <;> rfl
theorem kidsX_eq (d : Nat) (sc : XS) (s : Bt) (ks : List XV) (t : Bt) : kidsX d sc s ks t = match wordL [60, 47] s with
    | some r => .ok (allX ks t, r)
    | none => match wordL cdataW s with
     | some r => (match toL cdendW r with
      | none => .error 70
      | some (a, r') => kidsX d sc r' ks (t ++ linesL a))
     | none => match asideL s with
      | none => .error 70
      | some (some r) => kidsX d sc r ks t
      | some none => match wordL [60] s with
       | some r => (match elemX d sc r with
        | .error e => .error e
        | .ok (v, r') => kidsX d sc r' (allX ks t ++ [v]) [])
       | none => match textL s with
        | none => .error 70
        | some (x, r) => kidsX d sc r ks (t ++ x) := by
 show kidsN (s.length + 1) d sc s ks t = _
 rw [kidsN]
 cases h1 : wordL [60, 47] s with
 | some x => rfl
 | none =>
  simp only
  cases h2 : wordL cdataW s with
  | some x =>
   simp only
   have l2 := word_len h2
   cases h3 : toL cdendW x with
   | none => rfl
   | some y =>
    obtain ⟨a, r'⟩ := y
    simp only
    have l3 := to_len h3
    have lc : cdendW.length = 3 := rfl
    exact (kidsN_fuel _ _).2 _ _ _ _ _ (by omega) (by omega)
  | none =>
   simp only
   cases h3 : asideL s with
   | none => rfl
   | some o =>
    cases o with
    | some x =>
     simp only
     have := aside_len h3
     exact (kidsN_fuel _ _).2 _ _ _ _ _ (by omega) (by omega)
    | none =>
     simp only
     cases h4 : wordL [60] s with
     | some x =>
      simp only
      have l4 := word_len h4
      simp only [List.length_cons, List.length_nil] at l4
      rw [(kidsN_fuel s.length (x.length + 1)).1 d sc x (by omega) (by omega)]
      have he : elemN (x.length + 1) d sc x = elemX d sc x := rfl
      rw [he]
      cases h5 : elemX d sc x with
      | error e => rfl
      | ok y =>
       obtain ⟨v, r'⟩ := y
       simp only
       have := elem_len h5
       exact (kidsN_fuel _ _).2 _ _ _ _ _ (by omega) (by omega)
     | none =>
      simp only
      cases h5 : textL s with
      | none => rfl
      | some y =>
       obtain ⟨x, r'⟩ := y
       simp only
       have := text_len h4 h5
       exact (kidsN_fuel _ _).2 _ _ _ _ _ (by omega) (by omega)
theorem elemX_len {d : Nat} {sc : XS} {s r : Bt} {v : XV} (h : elemX d sc s = .ok (v, r)) : r.length < s.length := elem_len h
def PT (s : Bt) : Prop := ∃ zs, AllPt zs ∧ (∀ z ∈ zs, inXml z = true) ∧ s = enc zs
theorem plain_iff (s : Bt) : plainB s = true ↔ PT s := by
 unfold plainB
 rw [beq_iff_eq]
 constructor
 ·intro h
  exact ⟨(pts s).filter inXml, fun p hp => pts_allPt s p (List.mem_filter.1 hp).1, fun z hz => (List.mem_filter.1 hz).2, h.symm⟩
 ·rintro ⟨zs, h1, h2, rfl⟩
  rw [pts_enc' zs h1, List.filter_eq_self.2 h2]
theorem PT.append {a b : Bt} (ha : PT a) (hb : PT b) : PT (a ++ b) := by
 obtain ⟨x, h1, h2, rfl⟩ := ha
 obtain ⟨y, h3, h4, rfl⟩ := hb
 refine ⟨x ++ y, fun p hp => ?_, fun p hp => ?_, (enc_append x y).symm⟩
 ·rcases List.mem_append.1 hp with h | h
  ·exact h1 p h
  ·exact h3 p h
 ·rcases List.mem_append.1 hp with h | h
  ·exact h2 p h
  ·exact h4 p h
theorem PT.of {zs : List Int} (h1 : AllPt zs) (h2 : ∀ z ∈ zs, inXml z = true) : PT (enc zs) := ⟨zs, h1, h2, rfl⟩
theorem PT.ascii {l : Bt} (h : l.all (fun c => decide (32 ≤ c.toNat ∧ c.toNat < 128) || c == 9 || c == 10 || c == 13) = true) : PT l := by
 have h' := List.all_eq_true.1 h
 have hb : ∀ c ∈ l, c.toNat < 128 := fun c hc => by
  have := h' c hc
  simp only [Bool.or_eq_true, decide_eq_true_eq, beq_iff_eq] at this
  rcases this with ((h1 | h1) | h1) | h1
  ·omega
  all_goals subst h1; decide
 have he : ∀ l : Bt, (∀ c ∈ l, c.toNat < 128) → enc (l.map fun c => (c.toNat : Int)) = l := by
  intro l
  induction l with
  | nil => intro _; rfl
  | cons c l ih =>
   intro hl
   have hc := hl c List.mem_cons_self
   rw [List.map_cons, enc_cons, encodeRune_ascii _ (by omega) (by omega), ih (fun d hd => hl d (List.mem_cons_of_mem _ hd)), Int.toNat_natCast]
   simp
 rw [← he l hb]
 refine PT.of (fun p hp => ?_) (fun p hp => ?_)
 ·obtain ⟨c, hc, rfl⟩ := List.mem_map.1 hp
  have := hb c hc
  rw [isPt_iff]
  omega
 ·obtain ⟨c, hc, rfl⟩ := List.mem_map.1 hp
  have := h' c hc
  simp only [Bool.or_eq_true, decide_eq_true_eq, beq_iff_eq] at this
  unfold inXml
  rw [decide_eq_true_eq]
  rcases this with ((h1 | h1) | h1) | h1
  ·omega
  all_goals subst h1; decide
def openB (s : Bt) : Bool := plainB s && !(s.contains 13)
def rightNameB (s : Bt) : Bool := isNameL s && openB s
def rightAttrB (a : XA) : Bool := a.1 == [] && !(a.2.1 == xmlnsW) && rightNameB a.2.1 && openB a.2.2
def rightAttrsB (l : List XA) : Bool := l.all rightAttrB && decide (l.map (·.2.1)).Nodup
def rightTextB (k : XV) : Bool := !(k.text == []) && openB k.text && k.space == [] && k.attrs.isEmpty && k.kids.isEmpty
def rightKidsB (f : XV → Bool) : Bool → List XV → Bool
 | _, [] => true
 | prev, k :: l => (if k.name = [] then rightTextB k && !prev else f k) && rightKidsB f (k.name == []) l
def rightX : Nat → XV → Bool
 | 0, _ => false
 | n + 1, v => rightNameB v.name && openB v.space && v.text == [] && rightAttrsB v.attrs && rightKidsB (rightX n) false v.kids
def htmlB (t : Bt) : Bt := enc (html ((pts t).filter inXml))
def attrC (c : UInt8) : Bt := if c = 10 then [38, 35, 49, 48, 59] else if c = 9 then [38, 35, 57, 59] else [c]
def attrV (l : Bt) : Bt := l.flatMap attrC
def attrP (nm v : Bt) : Bt := 32 :: nm ++ [61, 34] ++ attrV (htmlB v) ++ [34]
def attrsP (l : List XA) : Bt := l.flatMap fun a => attrP a.2.1 a.2.2
mutual
def printX : XV → Bt → Bt
 | .mk sp nm as ks tx, ar => if nm = [] then htmlB tx else 60 :: nm ++ (if sp = ar then [] else attrP xmlnsW sp) ++ attrsP as ++ (if ks.isEmpty = true then [47, 62] else 62 :: printsX ks sp ++ [60, 47] ++ nm ++ [62])
def printsX : List XV → Bt → Bt
 | [], _ => []
 | k :: l, sp => printX k sp ++ printsX l sp
end
def hA (p : Int) : List Int := if p = 10 then [38, 35, 49, 48, 59] else if p = 9 then [38, 35, 57, 59] else hP p
theorem refs_name (nm r : Bt) (p : Int) (h59 : (59 : UInt8) ∉ nm) (hn : nameP nm = p) (hp : p ≠ -1) (hx : inXml p = true) : refsL (38 :: (nm ++ 59 :: r)) = (refsL r).map (encodeRune p ++ ·) := by
 have q := refQ_name nm r h59
 rw [hn, if_neg hp] at q
 rw [refs_good _ (by rw [q]; rintro (h | h); · cases h
                     ·rw [hx] at h; cases h), q]
 have : (nm ++ 59 :: r).drop (nm.length + 2 - 1) = r := by
  rw [show nm.length + 2 - 1 = nm.length + 1 by omega, List.drop_append]
  simp
 rw [this]
theorem enc_ne {zs : List Int} (h : zs ≠ []) : enc zs ≠ [] := by
 cases zs with
 | nil => exact absurd rfl h
 | cons p l =>
  rw [enc_cons]
  exact encodeRune_ne p _
end Go.Proofs.YtklcjimmbkpbdaaGreatDoor
