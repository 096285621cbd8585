/-
  Of the proofs of layer 7 (values of JSON): the parts EscJ JsP JsQ. No conditions.
-/
import Derived.Test.YtchgelfomnbpaaaDoorZ02
namespace Go.Proofs.YtchgelfomnbpaaaDoor
open Go.Lib

/-- A lower hexadecimal digit. -/
def hexL : List UInt8 := [48, 49, 50, 51, 52, 53, 54, 55, 56, 57, 97, 98, 99, 100, 101, 102]
/-- An upper hexadecimal digit. -/
def hexU : List UInt8 := [48, 49, 50, 51, 52, 53, 54, 55, 56, 57, 65, 66, 67, 68, 69, 70]
def hx (n : Nat) : UInt8 := hexL.getD n 0
def hU (n : Nat) : UInt8 := hexU.getD n 0
theorem hx_dig : ∀ n, n < 16 → digN (hx n) = n := by
  intro n h
  have : ∀ m : Fin 16, digN (hx m.1) = m.1 := by decide
  exact this ⟨n, h⟩
theorem hx_bd : ∀ n, n < 16 → 48 ≤ (hx n).toNat ∧ (hx n).toNat ≤ 102 ∧ (hx n).toNat ≠ 60 ∧ (hx n).toNat ≠ 62 := by
  intro n h
  have : ∀ m : Fin 16, 48 ≤ (hx m.1).toNat ∧ (hx m.1).toNat ≤ 102 ∧ (hx m.1).toNat ≠ 60 ∧ (hx m.1).toNat ≠ 62 := by decide
  exact this ⟨n, h⟩
/-- The four digits of a number below 65536. -/
def hex4 (n : Nat) : List UInt8 := [hx (n / 4096 % 16), hx (n / 256 % 16), hx (n / 16 % 16), hx (n % 16)]
/-- Is a code point told by its number? -/
def told (p : Int) : Bool := decide (p < 32 ∨ p = 127 ∨ p = 8232 ∨ p = 8233 ∨ p = 60 ∨ p = 62 ∨ p = 38)
/-- A code point in JSON, as code points. -/
def jP (p : Int) : List Int :=
  if p = 34 then [92, 34] else if p = 92 then [92, 92] else if p = 10 then [92, 110] else if p = 13 then [92, 114] else if p = 9 then [92, 116]
  else if told p = true then [92, 117] ++ (hex4 p.toNat).map (fun c => (c.toNat : Int)) else [p]
def jsn (l : List Int) : List Int := l.flatMap jP
theorem jsn_cons (p : Int) (l : List Int) : jsn (p :: l) = jP p ++ jsn l := by simp [jsn]
theorem jsn_append (a b : List Int) : jsn (a ++ b) = jsn a ++ jsn b := by simp [jsn]
theorem jP_length (p : Int) : (jP p).length ≤ 6 := by
  unfold jP; repeat' split
  all_goals simp [hex4]
theorem jsn_length (l : List Int) : (jsn l).length ≤ 6 * l.length := flat_length jP_length l
theorem isPt_ascii (c : UInt8) (h : c.toNat < 128) : isPt (c.toNat : Int) = true := by rw [isPt_iff]; omega
theorem hex4_mem (n : Nat) (c : UInt8) (h : c ∈ hex4 n) : 48 ≤ c.toNat ∧ c.toNat ≤ 102 ∧ c.toNat ≠ 60 ∧ c.toNat ≠ 62 := by
  simp only [hex4, List.mem_cons, List.not_mem_nil, or_false] at h
  rcases h with rfl | rfl | rfl | rfl <;> exact hx_bd _ (by omega)
theorem jP_mem (p q : Int) (hq : q ∈ jP p) : (q = p ∧ 32 ≤ q ∧ q ≠ 60 ∧ q ≠ 62 ∧ q ≠ 38) ∨ (32 ≤ q ∧ q < 128 ∧ q ≠ 60 ∧ q ≠ 62 ∧ q ≠ 38) := by
  unfold jP at hq
  split at hq
  · simp at hq; omega
  split at hq
  · simp at hq; omega
  split at hq
  · simp at hq; omega
  split at hq
  · simp at hq; omega
  split at hq
  · simp at hq; omega
  split at hq
  · rcases List.mem_append.1 hq with h | h
    · simp at h; omega
    · obtain ⟨c, hc, rfl⟩ := List.mem_map.1 h
      have := hex4_mem _ c hc
      omega
  · rename_i ht
    simp [told] at ht
    simp at hq
    omega
theorem jP_pt (p : Int) (h : isPt p = true) : AllPt (jP p) := by
  intro q hq
  rcases jP_mem p q hq with ⟨rfl, _⟩ | h
  · exact h
  · rw [isPt_iff]; omega
theorem jsn_pt {l : List Int} (h : AllPt l) : AllPt (jsn l) := flat_pt jP_pt h
theorem jsn_no (l : List Int) (q : Int) (hq : q ∈ jsn l) : 32 ≤ q ∧ q ≠ 60 ∧ q ≠ 62 ∧ q ≠ 38 := by
  obtain ⟨p, _, hq⟩ := List.mem_flatMap.1 hq
  rcases jP_mem p q hq with h | h <;> omega
theorem enc_ascii : ∀ (l : List UInt8), (∀ c ∈ l, c.toNat < 128) → enc (l.map fun c => (c.toNat : Int)) = l
  | [], _ => rfl
  | c :: l, h => by
    have hc := h c List.mem_cons_self
    rw [List.map_cons, enc_cons, enc_ascii l (fun d hd => h d (List.mem_cons_of_mem _ hd)), encodeRune_ascii _ (by omega) (by omega)]
    simp

/-! What a text in quotes stands for. -/
/-- The number of a \u and its four digits, or -1. -/
def unitQ (l : List UInt8) : Int := if l.length < 6 ∨ l[0]? ≠ some 92 ∨ l[1]? ≠ some 117 then -1 else numP 16 4 ((l.drop 2).take 4)
/-- The code point of what begins with a backslash and how many bytes it has, or -1. -/
def escQ (l : List UInt8) : Int × Nat :=
  match l[1]? with
  | none => (-1, 0)
  | some c =>
    if c = 34 then (34, 2) else if c = 92 then (92, 2) else if c = 47 then (47, 2) else if c = 98 then (8, 2) else if c = 102 then (12, 2) else if c = 110 then (10, 2) else if c = 114 then (13, 2) else if c = 116 then (9, 2)
    else if 55296 ≤ unitQ l ∧ unitQ l ≤ 56319 then (if 56320 ≤ unitQ (l.drop 6) ∧ unitQ (l.drop 6) ≤ 57343 then (65536 + (unitQ l - 55296) * 1024 + (unitQ (l.drop 6) - 56320), 12) else (-1, 0))
    else if isPt (unitQ l) = true then (unitQ l, 6) else (-1, 0)
theorem valD16_4 (ds : List UInt8) (h : ds.length ≤ 4) (hall : ds.all (isD 16) = true) : 0 ≤ valD 16 ds ∧ valD 16 ds ≤ 65535 := by
  have hd : ∀ c ∈ ds, 0 ≤ digN c ∧ digN c < 16 := fun c hc => by
    have := List.all_eq_true.1 hall c hc
    simpa [isD] using this
  match ds, h with
  | [], _ => decide
  | [a], _ => have := hd a (by simp); simp [valD]; omega
  | [a, b], _ => have := hd a (by simp); have := hd b (by simp); simp [valD]; omega
  | [a, b, c], _ => have := hd a (by simp); have := hd b (by simp); have := hd c (by simp); simp [valD]; omega
  | [a, b, c, d], _ => have := hd a (by simp); have := hd b (by simp); have := hd c (by simp); have := hd d (by simp); simp [valD]; omega
theorem numP16_4 (ds : List UInt8) : -1 ≤ numP 16 4 ds ∧ numP 16 4 ds ≤ 65535 := by
  unfold numP
  split
  · omega
  · rename_i h
    have h2 : ds.length ≤ 4 := by
      apply Decidable.byContradiction; intro hh; exact h (.inr (.inl (by omega)))
    have h3 : ds.all (isD 16) = true := by
      cases hh : ds.all (isD 16) with
      | true => rfl
      | false => exact absurd (.inr (.inr hh)) h
    have := valD16_4 ds h2 h3
    omega
theorem unitQ_bd (l : List UInt8) : -1 ≤ unitQ l ∧ unitQ l ≤ 65535 := by
  unfold unitQ
  split
  · omega
  · exact numP16_4 _
theorem unitQ_len (l : List UInt8) (h : 0 ≤ unitQ l) : 6 ≤ l.length ∧ (∀ c ∈ l.take 6, c.toNat < 128) := by
  unfold unitQ at h
  split at h
  · omega
  · rename_i hc
    have h6 : 6 ≤ l.length := by
      apply Decidable.byContradiction; intro hh; exact hc (.inl (by omega))
    refine ⟨h6, ?_⟩
    have h0 : l[0]? = some 92 := by
      apply Decidable.byContradiction; intro hh; exact hc (.inr (.inl hh))
    have h1 : l[1]? = some 117 := by
      apply Decidable.byContradiction; intro hh; exact hc (.inr (.inr hh))
    match l, h0, h1 with
    | a :: b :: r, h0, h1 =>
      simp at h0 h1
      subst h0; subst h1
      intro c hcm
      simp only [List.take_succ_cons, List.mem_cons] at hcm
      rcases hcm with rfl | rfl | hm
      · decide
      · decide
      · simp only [List.drop_succ_cons, List.drop_zero] at h
        unfold numP at h
        split at h
        · omega
        · rename_i hn
          have hall : (r.take 4).all (isD 16) = true := by
            cases hh : (r.take 4).all (isD 16) with
            | true => rfl
            | false => exact absurd (.inr (.inr hh)) hn
          have := List.all_eq_true.1 hall c hm
          simp [isD] at this
          have h2 := this.1
          unfold digN at h2
          repeat' split at h2
          all_goals omega
def EscOk (l : List UInt8) (e : Int × Nat) : Prop := e = (-1, 0) ∨ (isPt e.1 = true ∧ 2 ≤ e.2 ∧ e.2 ≤ l.length ∧ e.2 ≤ 12 ∧ ∀ c ∈ l.take e.2, c.toNat < 128)
theorem escQ_ok' (r : List UInt8) (c : UInt8) : EscOk (92 :: c :: r) (escQ (92 :: c :: r)) := by
  have two : ∀ (p : Int) (c : UInt8), c.toNat < 128 → isPt p = true → EscOk (92 :: c :: r) (p, 2) := by
    intro p c hc hp
    refine .inr ⟨hp, by simp, by simp, by simp, ?_⟩
    intro d hd
    simp at hd
    rcases hd with rfl | rfl
    · decide
    · exact hc
  have hu := unitQ_len (92 :: c :: r)
  have hv := unitQ_len ((92 :: c :: r).drop 6)
  have hb := unitQ_bd (92 :: c :: r)
  unfold escQ
  show EscOk (92 :: c :: r) (if c = 34 then (34, 2) else _)
  split
  · rename_i h; subst h; exact two _ _ (by decide) (by decide)
  split
  · rename_i h; subst h; exact two _ _ (by decide) (by decide)
  split
  · rename_i h; subst h; exact two _ _ (by decide) (by decide)
  split
  · rename_i h; subst h; exact two _ _ (by decide) (by decide)
  split
  · rename_i h; subst h; exact two _ _ (by decide) (by decide)
  split
  · rename_i h; subst h; exact two _ _ (by decide) (by decide)
  split
  · rename_i h; subst h; exact two _ _ (by decide) (by decide)
  split
  · rename_i h; subst h; exact two _ _ (by decide) (by decide)
  split
  · rename_i h1
    split
    · rename_i h2
      obtain ⟨g1, g2⟩ := hu (by omega)
      obtain ⟨g3, g4⟩ := hv (by have := h2.1; simp only [List.drop_succ_cons] at *; omega)
      refine .inr ⟨by rw [isPt_iff]; simp only; omega, by simp, ?_, by simp, ?_⟩
      · rw [List.length_drop] at g3; simp only; omega
      · intro d hd
        simp only at hd
        rw [show (12 : Nat) = 6 + 6 from rfl, List.take_add] at hd
        rcases List.mem_append.1 hd with hd | hd
        · exact g2 d hd
        · exact g4 d hd
    · exact .inl rfl
  split
  · rename_i h2
    have := (isPt_iff _).1 h2
    obtain ⟨g1, g2⟩ := hu (by omega)
    exact .inr ⟨h2, by simp, by simp only; omega, by simp, g2⟩
  · exact .inl rfl
theorem escQ_ok : ∀ (l : List UInt8), EscOk (92 :: l) (escQ (92 :: l))
  | [] => .inl rfl
  | c :: r => escQ_ok' r c
def unjN : Nat → List UInt8 → Option (List UInt8)
  | 0, _ => some []
  | _ + 1, [] => some []
  | f + 1, c :: r => if c.toNat < 32 ∨ c = 34 then none else if c ≠ 92 then (unjN f r).map (c :: ·) else if (escQ (c :: r)).1 < 0 then none else (unjN f ((c :: r).drop (escQ (c :: r)).2)).map (encodeRune (escQ (c :: r)).1 ++ ·)
def unj (l : List UInt8) : Option (List UInt8) := unjN l.length l
theorem unjN_fuel : ∀ (n m : Nat) (l : List UInt8), l.length ≤ n → l.length ≤ m → unjN n l = unjN m l
  | 0, 0, _, _, _ => rfl
  | 0, m + 1, l, h, _ => by
    have : l = [] := List.eq_nil_of_length_eq_zero (by omega)
    subst this; rfl
  | n + 1, 0, l, _, h => by
    have : l = [] := List.eq_nil_of_length_eq_zero (by omega)
    subst this; rfl
  | n + 1, m + 1, [], _, _ => rfl
  | n + 1, m + 1, c :: r, h1, h2 => by
    simp only [List.length_cons] at h1 h2
    unfold unjN
    rw [unjN_fuel n m r (by omega) (by omega)]
    by_cases hc : c = 92
    · subst hc
      rcases escQ_ok r with h | ⟨_, h, _⟩
      · rw [h]; simp
      · rw [unjN_fuel n m ((92 :: r).drop (escQ (92 :: r)).2) (by rw [List.length_drop, List.length_cons]; omega) (by rw [List.length_drop, List.length_cons]; omega)]
    · simp [hc]
theorem unj_nil : unj [] = some [] := rfl
theorem unj_cons (c : UInt8) (r : List UInt8) : unj (c :: r) = if c.toNat < 32 ∨ c = 34 then none else if c ≠ 92 then (unj r).map (c :: ·) else if (escQ (c :: r)).1 < 0 then none else (unj ((c :: r).drop (escQ (c :: r)).2)).map (encodeRune (escQ (c :: r)).1 ++ ·) := by
  unfold unj
  show unjN (r.length + 1) (c :: r) = _
  rw [unjN]
  by_cases hc : c = 92
  · subst hc
    rcases escQ_ok r with h | ⟨_, h, _⟩
    · rw [h]; simp
    · rw [unjN_fuel r.length ((92 :: r).drop (escQ (92 :: r)).2).length _ (by rw [List.length_drop, List.length_cons]; omega) (Nat.le_refl _)]
  · simp [hc]
theorem unj_bad (c : UInt8) (r : List UInt8) (h : c.toNat < 32 ∨ c = 34) : unj (c :: r) = none := by rw [unj_cons, if_pos h]
theorem unj_pass (r : List UInt8) : ∀ a : List UInt8, (∀ c ∈ a, ¬ (c.toNat < 32 ∨ c = 34) ∧ c ≠ 92) → unj (a ++ r) = (unj r).map (a ++ ·)
  | [], _ => by simp
  | c :: a, h => by
    have hc := h c List.mem_cons_self
    rw [List.cons_append, unj_cons, if_neg hc.1, if_pos hc.2, unj_pass r a (fun d hd => h d (List.mem_cons_of_mem _ hd)), Option.map_map]
    rfl
theorem unj_none (r : List UInt8) (h : (escQ (92 :: r)).1 < 0) : unj (92 :: r) = none := by rw [unj_cons, if_neg (by decide), if_neg (by decide), if_pos h]
theorem unj_esc (r : List UInt8) (h : ¬ (escQ (92 :: r)).1 < 0) : unj (92 :: r) = (unj ((92 :: r).drop (escQ (92 :: r)).2)).map (encodeRune (escQ (92 :: r)).1 ++ ·) := by rw [unj_cons, if_neg (by decide), if_neg (by decide), if_neg h]

/-- What is written is read again. -/
theorem unitQ_hex (n : Nat) (hn : n < 65536) (r : List UInt8) : unitQ (92 :: 117 :: (hex4 n ++ r)) = n := by
  have e0 := hx_dig (n / 4096 % 16) (by omega)
  have e1 := hx_dig (n / 256 % 16) (by omega)
  have e2 := hx_dig (n / 16 % 16) (by omega)
  have e3 := hx_dig (n % 16) (by omega)
  unfold unitQ
  rw [if_neg (by simp [hex4])]
  have e : (List.drop 2 (92 :: 117 :: (hex4 n ++ r))).take 4 = hex4 n := by simp [hex4]
  rw [e]
  unfold numP
  rw [if_neg]
  · simp only [hex4, valD, List.foldl_cons, List.foldl_nil]
    rw [e0, e1, e2, e3]
    omega
  · rintro (h | h | h)
    · simp [hex4] at h
    · simp [hex4] at h
    · have : (hex4 n).all (isD 16) = true := by
        simp only [hex4, List.all_cons, List.all_nil, isD, e0, e1, e2, e3, Bool.and_true, Bool.and_eq_true, decide_eq_true_eq]
        omega
      rw [this] at h; cases h
theorem unj_jP (p : Int) (hp : isPt p = true) (r : List UInt8) : unj (enc (jP p) ++ r) = (unj r).map (encodeRune p ++ ·) := by
  have two : ∀ (c : UInt8) (q : Int), escQ (92 :: c :: r) = (q, 2) → ¬ q < 0 → unj (92 :: c :: r) = (unj r).map (encodeRune q ++ ·) := by
    intro c q h hq
    rw [unj_esc (c :: r) (by rw [h]; exact hq), h]
    rfl
  have h0 := ((isPt_iff p).1 hp).1
  unfold jP
  split
  · subst p; rw [show enc [92, 34] = [92, 34] by decide]; exact two 34 34 rfl (by decide)
  split
  · subst p; rw [show enc [92, 92] = [92, 92] by decide]; exact two 92 92 rfl (by decide)
  split
  · subst p; rw [show enc [92, 110] = [92, 110] by decide]; exact two 110 10 rfl (by decide)
  split
  · subst p; rw [show enc [92, 114] = [92, 114] by decide]; exact two 114 13 rfl (by decide)
  split
  · subst p; rw [show enc [92, 116] = [92, 116] by decide]; exact two 116 9 rfl (by decide)
  split
  · rename_i ht
    have hb : p < 55296 := by simp [told] at ht; omega
    rw [enc_append, show enc [92, 117] = [92, 117] by decide, enc_ascii _ (fun c hc => by have := hex4_mem _ c hc; omega)]
    have hu := unitQ_hex p.toNat (by omega) r
    have he : escQ (92 :: 117 :: (hex4 p.toNat ++ r)) = (p, 6) := by
      have hpp : ((p.toNat : Nat) : Int) = p := by omega
      rw [hpp] at hu
      unfold escQ
      simp only [List.getElem?_cons_succ, List.getElem?_cons_zero]
      rw [hu, if_neg (by decide), if_neg (by decide), if_neg (by decide), if_neg (by decide), if_neg (by decide), if_neg (by decide), if_neg (by decide), if_neg (by decide), if_neg (by omega), if_pos hp]
    show unj (92 :: (117 :: (hex4 p.toNat ++ r))) = _
    rw [unj_esc _ (by rw [he]; simp; omega), he]
    simp [hex4]
  · rename_i n1 n2 n3 n4 n5 ht
    simp [told] at ht
    rw [show enc [p] = encodeRune p by simp [enc]]
    refine unj_pass r _ (fun c hc => ?_)
    by_cases hlt : c.toNat < 128
    · have := encodeRune_mem p hp c hc hlt
      refine ⟨?_, ?_⟩
      · rintro (h | h)
        · omega
        · subst h; exact n1 this
      · rintro rfl; exact n2 this
    · refine ⟨?_, ?_⟩
      · rintro (h | h)
        · omega
        · subst h; exact hlt (by decide)
      · rintro rfl; exact hlt (by decide)
theorem unj_jsn : ∀ (l : List Int), AllPt l → unj (enc (jsn l)) = some (enc l)
  | [], _ => rfl
  | p :: l, h => by
    rw [jsn_cons, enc_append, unj_jP p (h p List.mem_cons_self), unj_jsn l (fun q hq => h q (List.mem_cons_of_mem _ hq)), enc_cons]
    rfl

/-! Percent texts. -/
def stays (c : UInt8) : Bool := decide (97 ≤ c.toNat ∧ c.toNat ≤ 122 ∨ 65 ≤ c.toNat ∧ c.toNat ≤ 90 ∨ 48 ≤ c.toNat ∧ c.toNat ≤ 57 ∨ c.toNat = 45 ∨ c.toNat = 46 ∨ c.toNat = 95 ∨ c.toNat = 126)
def pct1 (c : UInt8) : List UInt8 := if stays c = true then [c] else [37, hU (c.toNat / 16), hU (c.toNat % 16)]
def pct (l : List UInt8) : List UInt8 := l.flatMap pct1
theorem pct_append (a b : List UInt8) : pct (a ++ b) = pct a ++ pct b := by simp [pct]
theorem pct_snoc (a : List UInt8) (c : UInt8) : pct (a ++ [c]) = pct a ++ pct1 c := by simp [pct]
theorem pct_length (l : List UInt8) : (pct l).length ≤ 3 * l.length := by
  induction l with
  | nil => simp [pct]
  | cons c l ih =>
    have h : (pct1 c).length ≤ 3 := by unfold pct1; split <;> simp
    have e : pct (c :: l) = pct1 c ++ pct l := by simp [pct]
    rw [e, List.length_append, List.length_cons]; omega

/-! Texts. -/
theorem txt_drop_ascii (l : List Int) (hl : AllPt l) (c : UInt8) (r : List UInt8) (h : enc l = c :: r) (hc : c.toNat < 128) : ∃ l', AllPt l' ∧ r = enc l' := by
  match l, hl with
  | [], _ => cases h
  | p :: l, hl =>
    have hp := hl p List.mem_cons_self
    have h0 := ((isPt_iff p).1 hp).1
    have hmem : c ∈ encodeRune p := by
      have hpos := (encodeRune_length p).1
      rw [enc_cons] at h
      match he : encodeRune p with
      | [] => rw [he] at hpos; simp at hpos
      | d :: t => rw [he] at h; cases h; exact List.mem_cons_self
    have hpc := encodeRune_mem p hp c hmem hc
    rw [enc_cons, encodeRune_ascii p h0 (by omega)] at h
    cases h
    exact ⟨l, fun q hq => hl q (List.mem_cons_of_mem _ hq), rfl⟩
/-- The bytes are the text of code points. -/
def IsTxt (l : List UInt8) : Prop := ∃ zs, AllPt zs ∧ l = enc zs
theorem isTxt_of_valid (l : List UInt8) (h : validD l = true) : IsTxt l := ⟨pts l, pts_allPt l, ((valid_iff l).1 h).symm⟩
theorem isTxt_drop : ∀ (n : Nat) (l : List UInt8), IsTxt l → (∀ c ∈ l.take n, c.toNat < 128) → IsTxt (l.drop n)
  | 0, l, h, _ => h
  | n + 1, [], h, _ => h
  | n + 1, c :: r, ⟨zs, hz, he⟩, hc => by
    obtain ⟨l', h1, h2⟩ := txt_drop_ascii zs hz c r he.symm (hc c (by simp))
    exact isTxt_drop n r ⟨l', h1, h2⟩ (fun d hd => hc d (by simp [hd]))
theorem isTxt_front (l : List UInt8) (c : UInt8) (hc : c.toNat < 128) (h : IsTxt (l ++ [c])) : IsTxt l := by
  obtain ⟨zs, hz, he⟩ := h
  rcases List.eq_nil_or_concat zs with rfl | ⟨ys, z, rfl⟩
  · simp [enc] at he
  · have hpz := hz z (by simp)
    have h0 := ((isPt_iff z).1 hpz).1
    have e1 : enc (ys ++ [z]) = enc ys ++ encodeRune z := by rw [enc_append]; simp [enc]
    rw [List.concat_eq_append] at he
    rw [e1] at he
    by_cases a : z ≤ 127
    · rw [encodeRune_ascii z h0 a] at he
      have := List.append_inj_left' he rfl
      exact ⟨ys, fun q hq => hz q (by simp [hq]), this⟩
    · exfalso
      have hne : encodeRune z ≠ [] := fun e => by have := (encodeRune_length z).1; rw [e] at this; simp at this
      have hlast : (encodeRune z).getLast hne = c := by
        have := congrArg List.getLast? he
        rw [List.getLast?_append, List.getLast?_append, List.getLast?_eq_some_getLast hne] at this
        simpa using this.symm
      have := encodeRune_high z hpz (by omega) c (by rw [← hlast]; exact List.getLast_mem hne)
      omega
theorem isTxt_head (c : UInt8) (r : List UInt8) (h : IsTxt (c :: r)) (hc : 128 ≤ c.toNat) : ∃ z, isPt z = true ∧ 128 ≤ z ∧ decodeL (c :: r) = (z.toNat, (encodeRune z).length) ∧ c :: r = encodeRune z ++ (c :: r).drop (encodeRune z).length ∧ IsTxt ((c :: r).drop (encodeRune z).length) := by
  obtain ⟨zs, hz, he⟩ := h
  match zs, hz with
  | [], _ => cases he
  | z :: zs, hz =>
    have hpz := hz z List.mem_cons_self
    have h0 := ((isPt_iff z).1 hpz).1
    rw [enc_cons] at he
    have h128 : 128 ≤ z := by
      apply Decidable.byContradiction
      intro hlt
      rw [encodeRune_ascii z h0 (by omega)] at he
      cases he
      rw [u8_toNat _ (by omega)] at hc
      omega
    refine ⟨z, hpz, h128, ?_, ?_, ?_⟩
    · rw [he, decode_enc z hpz]
    · rw [he, List.drop_left]
    · rw [he, List.drop_left]
      exact ⟨zs, fun q hq => hz q (List.mem_cons_of_mem _ hq), rfl⟩
end Go.Proofs.YtchgelfomnbpaaaDoor
namespace Go.Proofs.YtchgelfomnbpaaaDoor
open Go.Lib

abbrev Bt := List UInt8
/-- A value, whatever it holds. -/
inductive JV where
  | mk (kind : Int) (text : Bt) (names : List Bt) (list : List JV)
def JV.kind : JV → Int | .mk k _ _ _ => k
def JV.text : JV → Bt | .mk _ t _ _ => t
def JV.names : JV → List Bt | .mk _ _ n _ => n
def JV.list : JV → List JV | .mk _ _ _ l => l
def isBl (c : UInt8) : Bool := c == 32 || c == 9 || c == 10 || c == 13
def blanksL (s : Bt) : Bt := s.dropWhile isBl
/-! ### Numbers -/
def dgL (s : Bt) : Nat := (s.takeWhile (isD 10)).length
def signL (s : Bt) : Nat := if s.head? = some 45 then 1 else 0
def fracL (s : Bt) : Option Nat := if s.head? = some 46 then (if dgL (s.drop 1) = 0 then none else some (dgL (s.drop 1) + 1)) else some 0
def expSL (s : Bt) : Nat := if s.head? = some 43 ∨ s.head? = some 45 then 1 else 0
def expL (s : Bt) : Option Nat :=
  if s.head? = some 101 ∨ s.head? = some 69 then (if dgL (s.drop (1 + expSL (s.drop 1))) = 0 then none else some (1 + expSL (s.drop 1) + dgL (s.drop (1 + expSL (s.drop 1))))) else some 0
/-- How long a number at the front is; 0: there is none. -/
def numLen (s : Bt) : Nat :=
  let i := signL s
  let n := dgL (s.drop i)
  if n = 0 ∨ ((s.drop i).head? = some 48 ∧ 1 < n) then 0 else
    match fracL (s.drop (i + n)) with
    | none => 0
    | some f => match expL (s.drop (i + n + f)) with
      | none => 0
      | some e => i + n + f + e
/-! ### Texts in quotes -/
/-- Up to the quote that ends a text, and what stands behind it. -/
def scanQ : Bt → Option (Bt × Bt)
  | [] => none
  | c :: r => if c = 34 then some ([], r) else if c = 92 then (match r with | [] => none | d :: r' => (scanQ r').map fun x => (92 :: d :: x.1, x.2)) else (scanQ r).map fun x => (c :: x.1, x.2)
/-- What a text in quotes says, by what stands between them. -/
def unjq (a : Bt) : Option Bt := if validD (34 :: a ++ [34]) = true then unj a else none
def textL (s : Bt) : Option (Bt × Bt) :=
  match s with
  | [] => none
  | c :: r => if c = 34 then (match scanQ r with | none => none | some (a, b) => (unjq a).map fun x => (x, b)) else none
def memberL (s : Bt) : Option (Bt × Bt) :=
  match textL (blanksL s) with
  | none => none
  | some (x, r) => match blanksL r with
    | [] => none
    | c :: r => if c = 58 then some (x, r) else none
def nullW : Bt := [110, 117, 108, 108]
def falseW : Bt := [102, 97, 108, 115, 101]
def trueW : Bt := [116, 114, 117, 101]
def endC (obj : Bool) : UInt8 := if obj then 125 else 93
def kindC (obj : Bool) : Int := if obj then 6 else 5
mutual
def valJ : Nat → Nat → Bt → Except Int (JV × Bt)
  | 0, _, _ => .error 70
  | n + 1, depth, s0 =>
    let s := blanksL s0
    if nullW.isPrefixOf s then .ok (.mk 0 [] [] [], s.drop 4)
    else if falseW.isPrefixOf s then .ok (.mk 1 [] [] [], s.drop 5)
    else if trueW.isPrefixOf s then .ok (.mk 2 [] [] [], s.drop 4)
    else if s.head? = some 34 then (match textL s with | none => .error 70 | some (x, r) => .ok (.mk 4 x [] [], r))
    else if s.head? ≠ some 91 ∧ s.head? ≠ some 123 then (if numLen s = 0 then .error 70 else .ok (.mk 3 (s.take (numLen s)) [] [], s.drop (numLen s)))
    else if depth = 24 then .error 71
    else
      let obj := decide (s.head? = some 123)
      let r := blanksL (s.drop 1)
      if r.head? = some (endC obj) then .ok (.mk (kindC obj) [] [] [], r.drop 1)
      else loopJ n depth obj [] [] r
def loopJ : Nat → Nat → Bool → List Bt → List JV → Bt → Except Int (JV × Bt)
  | 0, _, _, _, _, _ => .error 70
  | n + 1, depth, obj, ns, vs, s =>
    match (if obj then (memberL s).map fun x => (ns ++ [x.1], x.2) else some (ns, s)) with
    | none => .error 70
    | some (ns, s) => match valJ n (depth + 1) s with
      | .error e => .error e
      | .ok (v, s) => match blanksL s with
        | [] => .error 70
        | c :: r => if c = endC obj then .ok (.mk (kindC obj) [] ns (vs ++ [v]), r) else if c ≠ 44 then .error 70 else loopJ n depth obj ns (vs ++ [v]) r
end
def parseJ (b : Bt) : Except Int JV :=
  if 65536 < b.length then .error 72 else
    match valJ (2 * b.length + 2) 0 b with
    | .error e => .error e
    | .ok (v, r) => if blanksL r = [] then .ok v else .error 70
/-! ### What is right; what is written -/
def jqL (x : Bt) : Bt := 34 :: enc (jsn (pts x)) ++ [34]
mutual
def rightJ : Nat → JV → Bool
  | depth, .mk k t ns l =>
    if k < 0 ∨ 6 < k then false
    else if (k < 5 ∧ 0 < l.length) ∨ (k ≠ 6 ∧ 0 < ns.length) ∨ (k = 6 ∧ ns.length ≠ l.length) then false
    else if k = 3 then decide (t ≠ [] ∧ numLen t = t.length)
    else if k = 4 then validD t
    else if t ≠ [] ∨ (5 ≤ k ∧ depth = 24) then false
    else (decide (k ≠ 6) || ns.all validD) && rightsJ (depth + 1) l
def rightsJ : Nat → List JV → Bool
  | _, [] => true
  | depth, v :: l => rightJ depth v && rightsJ depth l
end
mutual
def printJ : JV → Bt
  | .mk k t ns l => if k = 0 then nullW else if k = 1 then falseW else if k = 2 then trueW else if k = 3 then t else if k = 4 then jqL t
    else if k = 5 then 91 :: (joinJ false ns l ++ [93]) else 123 :: (joinJ true ns l ++ [125])
/-- Members, with commas between. -/
def joinJ : Bool → List Bt → List JV → Bt
  | _, _, [] => []
  | obj, ns, v :: l => (if obj then jqL (ns.headD []) ++ [58] else []) ++ printJ v ++ restJ obj (ns.drop 1) l
/-- Members, with a comma ahead of each. -/
def restJ : Bool → List Bt → List JV → Bt
  | _, _, [] => []
  | obj, ns, v :: l => 44 :: ((if obj then jqL (ns.headD []) ++ [58] else []) ++ printJ v ++ restJ obj (ns.drop 1) l)
end
/-! ### Blanks -/
theorem blanks_idem (s : Bt) : blanksL (blanksL s) = blanksL s := by
  unfold blanksL
  induction s with
  | nil => rfl
  | cons c r ih =>
    by_cases h : isBl c = true
    · rw [List.dropWhile_cons_of_pos h]; exact ih
    · rw [List.dropWhile_cons_of_neg h, List.dropWhile_cons_of_neg h]
theorem blanks_le (s : Bt) : (blanksL s).length ≤ s.length := by
  unfold blanksL
  induction s with
  | nil => exact Nat.le_refl _
  | cons c r ih =>
    by_cases h : isBl c = true
    · rw [List.dropWhile_cons_of_pos h, List.length_cons]; omega
    · rw [List.dropWhile_cons_of_neg h]; exact Nat.le_refl _
theorem blanks_keep {c : UInt8} (h : isBl c = false) (r : Bt) : blanksL (c :: r) = c :: r := by
  unfold blanksL
  exact List.dropWhile_cons_of_neg (by rw [h]; decide)
theorem blanks_pass (a : Bt) (h : ∀ c ∈ a, isBl c = true) (s : Bt) : blanksL (a ++ s) = blanksL s := by
  induction a with
  | nil => rfl
  | cons c a ih =>
    unfold blanksL at *
    rw [List.cons_append, List.dropWhile_cons_of_pos (h c (by simp))]
    exact ih fun x hx => h x (by simp [hx])
end Go.Proofs.YtchgelfomnbpaaaDoor
namespace Go.Proofs.YtchgelfomnbpaaaDoor
open Go.Lib

abbrev LoopF := Nat → Bool → List Bt → List JV → Bt → Except Int (JV × Bt)
abbrev ValF := Nat → Bt → Except Int (JV × Bt)
def valS (lp : LoopF) (depth : Nat) (s0 : Bt) : Except Int (JV × Bt) :=
  let s := blanksL s0
  if nullW.isPrefixOf s then .ok (.mk 0 [] [] [], s.drop 4)
  else if falseW.isPrefixOf s then .ok (.mk 1 [] [] [], s.drop 5)
  else if trueW.isPrefixOf s then .ok (.mk 2 [] [] [], s.drop 4)
  else if s.head? = some 34 then (match textL s with | none => .error 70 | some (x, r) => .ok (.mk 4 x [] [], r))
  else if s.head? ≠ some 91 ∧ s.head? ≠ some 123 then (if numLen s = 0 then .error 70 else .ok (.mk 3 (s.take (numLen s)) [] [], s.drop (numLen s)))
  else if depth = 24 then .error 71
  else
    let obj := decide (s.head? = some 123)
    let r := blanksL (s.drop 1)
    if r.head? = some (endC obj) then .ok (.mk (kindC obj) [] [] [], r.drop 1)
    else lp depth obj [] [] r
def namesL (obj : Bool) (ns : List Bt) (s : Bt) : Option (List Bt × Bt) := if obj then (memberL s).map fun x => (ns ++ [x.1], x.2) else some (ns, s)
def loopS (vj : ValF) (lp : LoopF) : LoopF := fun depth obj ns vs s =>
  match namesL obj ns s with
  | none => .error 70
  | some (ns, s) => match vj (depth + 1) s with
    | .error e => .error e
    | .ok (v, s) => match blanksL s with
      | [] => .error 70
      | c :: r => if c = endC obj then .ok (.mk (kindC obj) [] ns (vs ++ [v]), r) else if c ≠ 44 then .error 70 else lp depth obj ns (vs ++ [v]) r
theorem valJ_succ (n : Nat) : valJ (n + 1) = valS (loopJ n) := by
  funext depth s
  rw [valJ]
  rfl
theorem loopJ_succ (n : Nat) : loopJ (n + 1) = loopS (valJ n) (loopJ n) := by
  funext depth obj ns vs s
  rw [loopJ]
  rfl
theorem scan_len : ∀ (s a b : Bt), scanQ s = some (a, b) → s = a ++ 34 :: b
  | [], a, b, h => by simp [scanQ] at h
  | c :: r, a, b, h => by
    unfold scanQ at h
    split at h
    · rename_i hc
      cases h
      rw [hc]
      rfl
    · split at h
      · rename_i hc
        cases r with
        | nil => cases h
        | cons d r' =>
          dsimp only at h
          cases hr : scanQ r' with
          | none => rw [hr] at h; cases h
          | some x =>
            rw [hr] at h
            obtain ⟨a', b'⟩ := x
            cases h
            rw [scan_len r' a' b' hr, hc]
            rfl
      · cases hr : scanQ r with
        | none => rw [hr] at h; cases h
        | some x =>
          rw [hr] at h
          obtain ⟨a', b'⟩ := x
          cases h
          rw [scan_len r a' b' hr]
          rfl
theorem text_len {s x r : Bt} (h : textL s = some (x, r)) : r.length < s.length := by
  unfold textL at h
  cases s with
  | nil => cases h
  | cons c s =>
    dsimp only at h
    split at h
    · cases hs : scanQ s with
      | none => rw [hs] at h; cases h
      | some y =>
        obtain ⟨a, b⟩ := y
        rw [hs] at h
        dsimp only at h
        have e := scan_len s a b hs
        cases hu : unjq a with
        | none => rw [hu] at h; cases h
        | some z =>
          rw [hu] at h
          cases h
          rw [e]
          simp
          omega
    · cases h
theorem member_len {s x r : Bt} (h : memberL s = some (x, r)) : r.length < s.length := by
  unfold memberL at h
  cases ht : textL (blanksL s) with
  | none => rw [ht] at h; cases h
  | some y =>
    obtain ⟨x', r'⟩ := y
    rw [ht] at h
    dsimp only at h
    have h1 := text_len ht
    have h2 := blanks_le s
    have h3 := blanks_le r'
    cases hb : blanksL r' with
    | nil => rw [hb] at h; cases h
    | cons c r2 =>
      rw [hb] at h h3
      dsimp only at h
      split at h
      · cases h
        simp at h3
        omega
      · cases h
theorem names_len {obj : Bool} {ns ns' : List Bt} {s r : Bt} (h : namesL obj ns s = some (ns', r)) : r.length ≤ s.length := by
  unfold namesL at h
  cases obj with
  | false => cases h; exact Nat.le_refl _
  | true =>
    cases hm : memberL s with
    | none => rw [hm] at h; cases h
    | some y =>
      obtain ⟨x, r'⟩ := y
      rw [hm] at h
      cases h
      exact Nat.le_of_lt (member_len hm)
theorem prefix_len {w s : Bt} (h : w.isPrefixOf s = true) : w.length ≤ s.length := by
  rw [List.isPrefixOf_iff_prefix] at h
  exact h.length_le
theorem numLen_nil : numLen [] = 0 := rfl
/-- A value has at least one byte. -/
theorem valS_len {lp : LoopF} {depth : Nat} {s : Bt} (hl : ∀ obj t v r, t.length < s.length → lp depth obj [] [] t = .ok (v, r) → r.length < t.length) {v : JV} {r : Bt} (h : valS lp depth s = .ok (v, r)) : r.length < s.length := by
  have hb := blanks_le s
  unfold valS at h
  dsimp only at h
  generalize blanksL s = t at h hb
  split at h
  · rename_i hp
    have := prefix_len hp
    cases h
    rw [List.length_drop]
    simp [nullW] at this
    omega
  · split at h
    · rename_i hp
      have := prefix_len hp
      cases h
      rw [List.length_drop]
      simp [falseW] at this
      omega
    · split at h
      · rename_i hp
        have := prefix_len hp
        cases h
        rw [List.length_drop]
        simp [trueW] at this
        omega
      · split at h
        · cases ht : textL t with
          | none => rw [ht] at h; cases h
          | some y =>
            obtain ⟨x, r'⟩ := y
            rw [ht] at h
            cases h
            have := text_len ht
            omega
        · split at h
          · split at h
            · cases h
            · rename_i hn
              cases h
              rw [List.length_drop]
              cases t with
              | nil => exact absurd numLen_nil hn
              | cons c t =>
                simp at hb ⊢
                omega
          · rename_i h34 hbr
            split at h
            · cases h
            · cases t with
              | nil => simp at hbr
              | cons c t =>
                have h2 := blanks_le t
                simp only [List.drop_succ_cons, List.drop_zero, List.length_cons] at h hb
                split at h
                · cases h
                  rw [List.length_drop]
                  omega
                · have := hl _ _ _ _ (by omega) h
                  omega
theorem loopS_len {vj : ValF} {lp : LoopF} {depth : Nat} {obj : Bool} {ns : List Bt} {vs : List JV} {s : Bt} (hv : ∀ t v r, t.length ≤ s.length → vj (depth + 1) t = .ok (v, r) → r.length < t.length) (hl : ∀ ns vs t v r, t.length < s.length → lp depth obj ns vs t = .ok (v, r) → r.length < t.length) {v : JV} {r : Bt} (h : loopS vj lp depth obj ns vs s = .ok (v, r)) : r.length < s.length := by
  unfold loopS at h
  cases hn : namesL obj ns s with
  | none => rw [hn] at h; cases h
  | some y =>
    obtain ⟨ns', t⟩ := y
    have h1 := names_len hn
    rw [hn] at h
    dsimp only at h
    cases hj : vj (depth + 1) t with
    | error e => rw [hj] at h; cases h
    | ok z =>
      obtain ⟨v', u⟩ := z
      have h2 := hv t v' u h1 hj
      have h3 := blanks_le u
      rw [hj] at h
      dsimp only at h
      cases hb : blanksL u with
      | nil => rw [hb] at h; cases h
      | cons c r2 =>
        rw [hb] at h h3
        simp only [List.length_cons] at h3
        dsimp only at h
        split at h
        · cases h
          omega
        · split at h
          · cases h
          · have := hl _ _ _ _ _ (by omega) h
            omega
theorem lenJ : ∀ n, (∀ depth s v r, valJ n depth s = .ok (v, r) → r.length < s.length) ∧ (∀ depth obj ns vs s v r, loopJ n depth obj ns vs s = .ok (v, r) → r.length < s.length)
  | 0 => ⟨(fun depth s v r h => by rw [valJ] at h; cases h), (fun depth obj ns vs s v r h => by rw [loopJ] at h; cases h)⟩
  | n + 1 => by
    obtain ⟨h1, h2⟩ := lenJ n
    refine ⟨fun depth s v r h => ?_, fun depth obj ns vs s v r h => ?_⟩
    · rw [valJ_succ] at h
      exact valS_len (fun obj t v r _ h => h2 _ _ _ _ _ _ _ h) h
    · rw [loopJ_succ] at h
      exact loopS_len (fun t v r _ h => h1 _ _ _ _ h) (fun ns vs t v r _ h => h2 _ _ _ _ _ _ _ h) h
/-- Only what stands behind a bracket is handed on. -/
theorem valS_congr {lp lp' : LoopF} {depth : Nat} {s : Bt} (hl : ∀ obj t, t.length < s.length → lp depth obj [] [] t = lp' depth obj [] [] t) : valS lp depth s = valS lp' depth s := by
  have hb := blanks_le s
  unfold valS
  dsimp only
  generalize blanksL s = t at hb
  split
  · rfl
  · split
    · rfl
    · split
      · rfl
      · split
        · rfl
        · split
          · rfl
          · rename_i h34 hbr
            split
            · rfl
            · cases t with
              | nil => simp at hbr
              | cons c t =>
                have h2 := blanks_le t
                simp only [List.drop_succ_cons, List.drop_zero, List.length_cons] at hb ⊢
                rw [hl _ (blanksL t) (by omega)]
theorem loopS_congr {vj vj' : ValF} {lp lp' : LoopF} {depth : Nat} {obj : Bool} {ns : List Bt} {vs : List JV} {s : Bt} (hv : ∀ t, t.length ≤ s.length → vj (depth + 1) t = vj' (depth + 1) t) (hvl : ∀ t v r, vj' (depth + 1) t = .ok (v, r) → r.length < t.length) (hl : ∀ ns vs t, t.length < s.length → lp depth obj ns vs t = lp' depth obj ns vs t) : loopS vj lp depth obj ns vs s = loopS vj' lp' depth obj ns vs s := by
  unfold loopS
  cases hn : namesL obj ns s with
  | none => rfl
  | some y =>
    obtain ⟨ns', t⟩ := y
    have h1 := names_len hn
    dsimp only
    rw [hv t h1]
    cases hj : vj' (depth + 1) t with
    | error e => rfl
    | ok z =>
      obtain ⟨v', u⟩ := z
      have h2 := hvl t v' u hj
      have h3 := blanks_le u
      dsimp only
      cases hb : blanksL u with
      | nil => rfl
      | cons c r2 =>
        rw [hb] at h3
        simp only [List.length_cons] at h3
        dsimp only
        rw [hl _ _ r2 (by omega)]
theorem fuelJ : ∀ n m, (∀ depth s, 2 * s.length + 1 ≤ n → 2 * s.length + 1 ≤ m → valJ n depth s = valJ m depth s) ∧ (∀ depth obj ns vs s, 2 * s.length + 2 ≤ n → 2 * s.length + 2 ≤ m → loopJ n depth obj ns vs s = loopJ m depth obj ns vs s)
  | 0, m => ⟨fun _ _ h => by omega, fun _ _ _ _ _ h => by omega⟩
  | n + 1, 0 => ⟨fun _ _ _ h => by omega, fun _ _ _ _ _ _ h => by omega⟩
  | n + 1, m + 1 => by
    obtain ⟨h1, h2⟩ := fuelJ n m
    refine ⟨fun depth s hn hm => ?_, fun depth obj ns vs s hn hm => ?_⟩
    · rw [valJ_succ, valJ_succ]
      exact valS_congr fun obj t ht => h2 _ _ _ _ _ (by omega) (by omega)
    · rw [loopJ_succ, loopJ_succ]
      exact loopS_congr (fun t ht => h1 _ _ (by omega) (by omega)) (fun t v r h => (lenJ m).1 _ _ _ _ h) (fun ns vs t ht => h2 _ _ _ _ _ (by omega) (by omega))
/-- Blanks ahead change nothing. -/
theorem valJ_blanks (n depth : Nat) (s : Bt) : valJ n depth (blanksL s) = valJ n depth s := by
  cases n with
  | zero => rw [valJ, valJ]
  | succ n =>
    rw [valJ_succ]
    unfold valS
    rw [blanks_idem]
end Go.Proofs.YtchgelfomnbpaaaDoor
