/-
  Plain facts on references in HTML: which there are, by their names and by the text from its front, and what is left of a text of which they are replaced. No conditions.
-/
import Derived.Test.YtoddghppbfehpaaDoorEscP
namespace Go.Proofs.YtoddghppbfehpaaDoor
open Go.Lib

/-- A number that a reference may tell. -/
def chk (n : Int) : Int := if 1 ≤ n ∧ isPt n = true then n else -1
/-- The number behind a number sign. -/
def sharp (r : List UInt8) : Int := if r.head? = some 120 ∨ r.head? = some 88 then numP 16 6 (r.drop 1) else numP 10 7 r
/-- The code point of a reference's name, or -1. -/
def nameP (nm : List UInt8) : Int :=
  if nm = [97, 109, 112] then 38 else if nm = [108, 116] then 60 else if nm = [103, 116] then 62 else if nm = [113, 117, 111, 116] then 34 else if nm = [97, 112, 111, 115] then 39
  else if nm.head? = some 35 then chk (sharp (nm.drop 1)) else -1
/-- The end of the document's Reference: the number, its digits, where they begin. -/
def fin (l : List UInt8) (at' k : Nat) (p : Int) : Int × Nat := if k ≠ 0 ∧ l[at' + k]? = some 59 ∧ p ≠ 0 ∧ isPt p = true then (p, at' + k + 2) else (-1, 0)
/-- The document's Reference, of what stands behind the ampersand. -/
def refQ (l : List UInt8) : Int × Nat :=
  if [97, 109, 112, 59].isPrefixOf l = true then (38, 5) else if [108, 116, 59].isPrefixOf l = true then (60, 4) else if [103, 116, 59].isPrefixOf l = true then (62, 4) else if [113, 117, 111, 116, 59].isPrefixOf l = true then (34, 6) else if [97, 112, 111, 115, 59].isPrefixOf l = true then (39, 6)
  else if [35, 120].isPrefixOf l = true ∨ [35, 88].isPrefixOf l = true then fin l 2 (digs 16 6 (l.drop 2)).length (valD 16 (digs 16 6 (l.drop 2)))
  else if [35].isPrefixOf l = true then fin l 1 (digs 10 7 (l.drop 1)).length (valD 10 (digs 10 7 (l.drop 1))) else (-1, 0)

theorem pre_semi (t : List UInt8) : ∀ (x nm : List UInt8), (59 : UInt8) ∉ x → (59 : UInt8) ∉ nm → ((x ++ [59]).isPrefixOf (nm ++ 59 :: t) = true ↔ nm = x)
  | [], [], _, _ => by simp
  | [], b :: nm, _, h => by
    simp only [List.nil_append, List.cons_append, List.isPrefixOf, Bool.and_eq_true, beq_iff_eq]
    constructor
    · rintro ⟨e, _⟩; subst e; exact absurd List.mem_cons_self h
    · intro e; cases e
  | a :: x, [], h, _ => by
    simp only [List.nil_append, List.cons_append, List.isPrefixOf, Bool.and_eq_true, beq_iff_eq]
    constructor
    · rintro ⟨e, _⟩; subst e; exact absurd List.mem_cons_self h
    · intro e; cases e
  | a :: x, b :: nm, h1, h2 => by
    have ih := pre_semi t x nm (fun e => h1 (List.mem_cons_of_mem _ e)) (fun e => h2 (List.mem_cons_of_mem _ e))
    simp only [List.cons_append, List.isPrefixOf, Bool.and_eq_true, beq_iff_eq, List.cons.injEq]
    rw [ih]
    constructor
    · rintro ⟨rfl, rfl⟩; exact ⟨rfl, rfl⟩
    · rintro ⟨rfl, rfl⟩; exact ⟨rfl, rfl⟩
theorem numP_neg (base : Int) (most : Nat) (ds : List UInt8) (h : ds = [] ∨ most < ds.length ∨ ds.all (isD base) = false) : numP base most ds = -1 := by unfold numP; rw [if_pos h]
/-- Digits up to a semicolon, behind some other bytes. -/
theorem fin_semi (base : Int) (most at' : Nat) (hd ds t : List UInt8) (hh : hd.length = at') (h59 : (59 : UInt8) ∉ ds) :
    fin (hd ++ (ds ++ 59 :: t)) at' (digs base most (ds ++ 59 :: t)).length (valD base (digs base most (ds ++ 59 :: t))) = if chk (numP base most ds) = -1 then (-1, 0) else (chk (numP base most ds), at' + ds.length + 2) := by
  have hs := digs_semi base most ds t h59
  have hget : (hd ++ (ds ++ 59 :: t))[at' + (digs base most (ds ++ 59 :: t)).length]? = (ds ++ 59 :: t)[(digs base most (ds ++ 59 :: t)).length]? := by
    rw [List.getElem?_append_right (by omega)]
    congr 1
    omega
  unfold fin
  rw [hget]
  by_cases hg : ds = [] ∨ most < ds.length ∨ ds.all (isD base) = false
  · rw [numP_neg _ _ _ hg, show chk (-1) = -1 by decide, if_pos rfl, if_neg]
    rintro ⟨h1, h2, _⟩
    exact hs.1 ⟨h1, h2⟩ hg
  · have hq := hs.2 hg
    have hn : numP base most ds = valD base ds := by unfold numP; rw [if_neg hg]
    have he := digs_semi_eq base most ds t hg
    rw [he] at hq ⊢
    have hv : 0 ≤ valD base ds := by
      have hall : ds.all (isD base) = true := by
        cases hh : ds.all (isD base) with
        | true => rfl
        | false => exact absurd (.inr (.inr hh)) hg
      by_cases hb : 0 ≤ base
      · have : ∀ (l : List UInt8) (n : Int), 0 ≤ n → (∀ c ∈ l, isD base c = true) → 0 ≤ l.foldl (fun n c => n * base + digN c) n := by
          intro l
          induction l with
          | nil => intro n hn _; exact hn
          | cons c l ih =>
            intro n hn hc
            refine ih _ ?_ (fun d hd => hc d (List.mem_cons_of_mem _ hd))
            have h1 := hc c List.mem_cons_self
            simp [isD] at h1
            have := Int.mul_nonneg hn hb
            show 0 ≤ n * base + digN c
            omega
        exact this ds 0 (Int.le_refl _) (List.all_eq_true.1 hall)
      · exfalso
        have hne : ds ≠ [] := fun e => hg (.inl e)
        obtain ⟨c, l, rfl⟩ := List.exists_cons_of_ne_nil hne
        have h1 := List.all_eq_true.1 hall c List.mem_cons_self
        simp [isD] at h1
        omega
    rw [hn]
    by_cases hc : valD base ds ≠ 0 ∧ isPt (valD base ds) = true
    · have hk : chk (valD base ds) = valD base ds := by unfold chk; rw [if_pos ⟨by omega, hc.2⟩]
      rw [hk, if_pos ⟨hq.1, hq.2, hc.1, hc.2⟩, if_neg (by omega)]
    · have hk : chk (valD base ds) = -1 := by unfold chk; rw [if_neg]; rintro ⟨h1, h2⟩; exact hc ⟨by omega, h2⟩
      rw [hk, if_pos rfl, if_neg]
      rintro ⟨_, _, h3, h4⟩
      exact hc ⟨h3, h4⟩
/-- A reference by its name. -/
theorem refQ_name (nm t : List UInt8) (h59 : (59 : UInt8) ∉ nm) : refQ (nm ++ 59 :: t) = if nameP nm = -1 then (-1, 0) else (nameP nm, nm.length + 2) := by
  have e1 := pre_semi t [97, 109, 112] nm (by decide) h59
  have e2 := pre_semi t [108, 116] nm (by decide) h59
  have e3 := pre_semi t [103, 116] nm (by decide) h59
  have e4 := pre_semi t [113, 117, 111, 116] nm (by decide) h59
  have e5 := pre_semi t [97, 112, 111, 115] nm (by decide) h59
  simp only [List.cons_append, List.nil_append] at e1 e2 e3 e4 e5
  unfold refQ nameP
  by_cases c1 : nm = [97, 109, 112]
  · rw [if_pos (e1.2 c1), if_pos c1]; subst c1; rfl
  rw [if_neg (fun h => c1 (e1.1 h)), if_neg c1]
  by_cases c2 : nm = [108, 116]
  · rw [if_pos (e2.2 c2), if_pos c2]; subst c2; rfl
  rw [if_neg (fun h => c2 (e2.1 h)), if_neg c2]
  by_cases c3 : nm = [103, 116]
  · rw [if_pos (e3.2 c3), if_pos c3]; subst c3; rfl
  rw [if_neg (fun h => c3 (e3.1 h)), if_neg c3]
  by_cases c4 : nm = [113, 117, 111, 116]
  · rw [if_pos (e4.2 c4), if_pos c4]; subst c4; rfl
  rw [if_neg (fun h => c4 (e4.1 h)), if_neg c4]
  by_cases c5 : nm = [97, 112, 111, 115]
  · rw [if_pos (e5.2 c5), if_pos c5]; subst c5; rfl
  rw [if_neg (fun h => c5 (e5.1 h)), if_neg c5]
  clear e1 e2 e3 e4 e5 c1 c2 c3 c4 c5
  match nm, h59 with
  | [], _ => simp [List.isPrefixOf]
  | a :: r, h59 =>
    by_cases ha : a = 35
    · subst ha
      have hr : (59 : UInt8) ∉ r := fun e => h59 (List.mem_cons_of_mem _ e)
      have hN : (if (35 :: r : List UInt8).head? = some 35 then chk (sharp (List.drop 1 (35 :: r))) else -1) = chk (sharp r) := rfl
      rw [hN]
      clear hN
      match r, hr with
      | [], _ =>
        rw [show chk (sharp []) = -1 by decide, if_pos rfl, if_neg (by simp [List.isPrefixOf]), if_pos (by simp [List.isPrefixOf])]
        have := fin_semi 10 7 1 [35] [] t rfl (by simp)
        rw [show chk (numP 10 7 []) = -1 by decide, if_pos rfl] at this
        exact this
      | x :: ds, hr =>
        have hds : (59 : UInt8) ∉ ds := fun e => hr (List.mem_cons_of_mem _ e)
        by_cases hx : x = 120 ∨ x = 88
        · have hS : sharp (x :: ds) = numP 16 6 ds := by
            unfold sharp
            rw [if_pos (by simpa using hx)]
            rfl
          rw [hS, if_pos (by rcases hx with rfl | rfl <;> simp [List.isPrefixOf])]
          have := fin_semi 16 6 2 [35, x] ds t rfl hds
          simp only [List.length_cons]
          rw [show 2 + ds.length + 2 = ds.length + 1 + 1 + 2 by omega] at this
          exact this
        · have hS : sharp (x :: ds) = numP 10 7 (x :: ds) := by
            unfold sharp
            rw [if_neg (by simpa using hx)]
          rw [hS, if_neg (by simp [List.isPrefixOf]; exact ⟨fun e => hx (.inl e.symm), fun e => hx (.inr e.symm)⟩), if_pos (by simp [List.isPrefixOf])]
          have := fin_semi 10 7 1 [35] (x :: ds) t rfl hr
          simp only [List.length_cons] at this ⊢
          rw [show 1 + (ds.length + 1) + 2 = ds.length + 1 + 1 + 2 by omega] at this
          exact this
    · have hN : (if (a :: r : List UInt8).head? = some 35 then chk (sharp (List.drop 1 (a :: r))) else -1) = -1 := by rw [if_neg (by simpa using ha)]
      rw [hN, if_pos rfl, if_neg (by simp [List.isPrefixOf]; exact ⟨fun e => absurd e.symm ha, fun e => absurd e.symm ha⟩), if_neg (by simp [List.isPrefixOf]; exact fun e => ha e.symm)]
/-- There is none where no semicolon stands near. -/
theorem refQ_none (l : List UInt8) (h : (59 : UInt8) ∉ l.take 9) : refQ l = (-1, 0) := by
  have hget : ∀ i, i < 9 → l[i]? ≠ some 59 := by
    intro i hi he
    apply h
    refine List.mem_of_getElem? (i := i) ?_
    rw [List.getElem?_take_of_lt hi, he]
  have hpre : ∀ (x : List UInt8), x.length < 9 → ¬ (x ++ [59]).isPrefixOf l = true := by
    intro x hx hp
    rw [List.isPrefixOf_iff_prefix] at hp
    obtain ⟨r, hr⟩ := hp
    apply hget x.length hx
    rw [← hr, List.append_assoc, List.getElem?_append_right (Nat.le_refl _)]
    simp
  have hfin : ∀ (at' k : Nat) (p : Int), at' + k < 9 → fin l at' k p = (-1, 0) := by
    intro at' k p hk
    unfold fin
    rw [if_neg]
    rintro ⟨_, h2, _⟩
    exact hget _ hk h2
  have g16 := digs_length 16 6 (l.drop 2)
  have g10 := digs_length 10 7 (l.drop 1)
  unfold refQ
  rw [if_neg (show ¬ ([97, 109, 112, 59].isPrefixOf l = true) from hpre [97, 109, 112] (by decide)), if_neg (show ¬ ([108, 116, 59].isPrefixOf l = true) from hpre [108, 116] (by decide)), if_neg (show ¬ ([103, 116, 59].isPrefixOf l = true) from hpre [103, 116] (by decide)), if_neg (show ¬ ([113, 117, 111, 116, 59].isPrefixOf l = true) from hpre [113, 117, 111, 116] (by decide)), if_neg (show ¬ ([97, 112, 111, 115, 59].isPrefixOf l = true) from hpre [97, 112, 111, 115] (by decide)), hfin _ _ _ (by omega), hfin _ _ _ (by omega)]
  split
  · rfl
  · split <;> rfl
/-- What a reference stands for is a code point, and it is short. -/
theorem refQ_ok (l : List UInt8) : (refQ l = (-1, 0)) ∨ (isPt (refQ l).1 = true ∧ 3 ≤ (refQ l).2 ∧ (refQ l).2 ≤ l.length + 1 ∧ 1 ≤ (refQ l).1) := by
  by_cases h : (59 : UInt8) ∈ l.take 9
  · have hm : (59 : UInt8) ∈ l := List.mem_of_mem_take h
    obtain ⟨nm, t, rfl, hn⟩ := List.eq_append_cons_of_mem hm
    rw [refQ_name nm t hn]
    by_cases hp : nameP nm = -1
    · rw [if_pos hp]; exact .inl rfl
    · rw [if_neg hp]
      refine .inr ?_
      have hne : nm ≠ [] := by
        rintro rfl
        exact hp (by decide)
      have hl : 0 < nm.length := List.length_pos_iff.2 hne
      have hpt : isPt (nameP nm) = true ∧ 1 ≤ nameP nm := by
        unfold nameP at hp ⊢
        repeat' split
        all_goals first | decide | skip
        · rename_i h35
          unfold chk at hp ⊢
          split
          · rename_i hc; exact ⟨hc.2, hc.1⟩
          · exfalso
            rename_i n1 n2 n3 n4 n5 hc
            rw [if_neg n1, if_neg n2, if_neg n3, if_neg n4, if_neg n5, if_pos h35, if_neg hc] at hp
            exact hp rfl
        · exfalso
          rename_i n1 n2 n3 n4 n5 hc
          rw [if_neg n1, if_neg n2, if_neg n3, if_neg n4, if_neg n5, if_neg hc] at hp
          exact hp rfl
      refine ⟨hpt.1, by simp only; omega, ?_, hpt.2⟩
      simp only [List.length_append, List.length_cons]
      omega
  · exact .inl (refQ_none l h)

/-! What is left of a text of which the references are replaced. -/
def unhN : Nat → List UInt8 → List UInt8
  | 0, _ => []
  | _ + 1, [] => []
  | f + 1, c :: r => if c = 38 then (if (refQ r).1 < 0 then 38 :: unhN f r else encodeRune (refQ r).1 ++ unhN f (r.drop ((refQ r).2 - 1))) else c :: unhN f r
def unh (l : List UInt8) : List UInt8 := unhN l.length l
theorem unhN_fuel : ∀ (n m : Nat) (l : List UInt8), l.length ≤ n → l.length ≤ m → unhN n l = unhN m l
  | 0, 0, _, _, _ => rfl
  | 0, m + 1, l, h, _ => by
    have : l = [] := List.eq_nil_of_length_eq_zero (by omega)
    subst this; rfl
  | n + 1, 0, l, _, h => by
    have : l = [] := List.eq_nil_of_length_eq_zero (by omega)
    subst this; rfl
  | n + 1, m + 1, [], _, _ => rfl
  | n + 1, m + 1, c :: r, h1, h2 => by
    simp only [List.length_cons] at h1 h2
    unfold unhN
    rw [unhN_fuel n m r (by omega) (by omega), unhN_fuel n m (r.drop ((refQ r).2 - 1)) (by rw [List.length_drop]; omega) (by rw [List.length_drop]; omega)]
theorem unh_nil : unh [] = [] := rfl
theorem unh_cons (c : UInt8) (r : List UInt8) : unh (c :: r) = if c = 38 then (if (refQ r).1 < 0 then 38 :: unh r else encodeRune (refQ r).1 ++ unh (r.drop ((refQ r).2 - 1))) else c :: unh r := by
  unfold unh
  show unhN (r.length + 1) (c :: r) = _
  rw [unhN]
  rw [unhN_fuel r.length (r.drop ((refQ r).2 - 1)).length _ (by rw [List.length_drop]; omega) (Nat.le_refl _)]
theorem unh_pass (r : List UInt8) : ∀ a : List UInt8, (38 : UInt8) ∉ a → unh (a ++ r) = a ++ unh r
  | [], _ => rfl
  | c :: a, h => by
    rw [List.cons_append, unh_cons, if_neg (fun e : c = 38 => h (by rw [e]; exact List.mem_cons_self)), unh_pass r a (fun e => h (List.mem_cons_of_mem _ e)), List.cons_append]
theorem unh_amp (r : List UInt8) (h : (refQ r).1 < 0) : unh (38 :: r) = 38 :: unh r := by rw [unh_cons, if_pos rfl, if_pos h]
theorem unh_ref (r : List UInt8) (h : ¬ (refQ r).1 < 0) : unh (38 :: r) = encodeRune (refQ r).1 ++ unh (r.drop ((refQ r).2 - 1)) := by rw [unh_cons, if_pos rfl, if_neg h]

/-! Bytes of code points. -/
theorem encodeRune_ascii (p : Int) (h0 : 0 ≤ p) (h1 : p ≤ 127) : encodeRune p = [p.toNat.toUInt8] := by
  simp [encodeRune, encodeRuneZ_one h0 h1]
theorem encodeRune_high (p : Int) (hp : isPt p = true) (h : 128 ≤ p) : ∀ c ∈ encodeRune p, 128 ≤ c.toNat := by
  rw [isPt_iff] at hp
  obtain ⟨_, h1, h2⟩ := hp
  intro c hc
  by_cases b : p ≤ 2047
  · simp only [encodeRune, encodeRuneZ_two (by omega) b, List.map_cons, List.map_nil, List.mem_cons, List.not_mem_nil, or_false] at hc
    rcases hc with rfl | rfl <;> rw [u8_toNat _ (by omega)] <;> omega
  · by_cases c' : p ≤ 65535
    · simp only [encodeRune, encodeRuneZ_three (show (2048 ≤ p ∧ p < 55296) ∨ (57343 < p ∧ p ≤ 65535) by omega), List.map_cons, List.map_nil, List.mem_cons, List.not_mem_nil, or_false] at hc
      rcases hc with rfl | rfl | rfl <;> rw [u8_toNat _ (by omega)] <;> omega
    · simp only [encodeRune, encodeRuneZ_four (show 65536 ≤ p by omega) h1, List.map_cons, List.map_nil, List.mem_cons, List.not_mem_nil, or_false] at hc
      rcases hc with rfl | rfl | rfl | rfl <;> rw [u8_toNat _ (by omega)] <;> omega
theorem encodeRune_mem (p : Int) (hp : isPt p = true) (c : UInt8) (hc : c ∈ encodeRune p) (h : c.toNat < 128) : p = c.toNat := by
  have h0 := ((isPt_iff p).1 hp).1
  by_cases a : p ≤ 127
  · rw [encodeRune_ascii p h0 a, List.mem_singleton] at hc
    subst hc
    rw [u8_toNat _ (by omega)]
    omega
  · have := encodeRune_high p hp (by omega) c hc
    omega
theorem enc_mem (l : List Int) (hl : AllPt l) (c : UInt8) (hc : c ∈ enc l) (h : c.toNat < 128) : (c.toNat : Int) ∈ l := by
  obtain ⟨p, hp, hc⟩ := List.mem_flatMap.1 hc
  rw [← encodeRune_mem p (hl p hp) c hc h]
  exact hp

/-- What is written is read again. -/
theorem unh_hP (p : Int) (hp : isPt p = true) (r : List UInt8) : unh (enc (hP p) ++ r) = encodeRune p ++ unh r := by
  unfold hP
  split
  · subst p
    have e : enc [38, 97, 109, 112, 59] = [38, 97, 109, 112, 59] := by decide
    have q : refQ ([97, 109, 112] ++ 59 :: r) = _ := refQ_name [97, 109, 112] r (by decide)
    rw [show nameP [97, 109, 112] = 38 by decide] at q
    rw [e]
    show unh (38 :: ([97, 109, 112] ++ 59 :: r)) = _
    rw [unh_ref _ (by rw [q]; decide), q]
    rfl
  split
  · subst p
    have e : enc [38, 108, 116, 59] = [38, 108, 116, 59] := by decide
    have q : refQ ([108, 116] ++ 59 :: r) = _ := refQ_name [108, 116] r (by decide)
    rw [show nameP [108, 116] = 60 by decide] at q
    rw [e]
    show unh (38 :: ([108, 116] ++ 59 :: r)) = _
    rw [unh_ref _ (by rw [q]; decide), q]
    rfl
  split
  · subst p
    have e : enc [38, 103, 116, 59] = [38, 103, 116, 59] := by decide
    have q : refQ ([103, 116] ++ 59 :: r) = _ := refQ_name [103, 116] r (by decide)
    rw [show nameP [103, 116] = 62 by decide] at q
    rw [e]
    show unh (38 :: ([103, 116] ++ 59 :: r)) = _
    rw [unh_ref _ (by rw [q]; decide), q]
    rfl
  split
  · subst p
    have e : enc [38, 113, 117, 111, 116, 59] = [38, 113, 117, 111, 116, 59] := by decide
    have q : refQ ([113, 117, 111, 116] ++ 59 :: r) = _ := refQ_name [113, 117, 111, 116] r (by decide)
    rw [show nameP [113, 117, 111, 116] = 34 by decide] at q
    rw [e]
    show unh (38 :: ([113, 117, 111, 116] ++ 59 :: r)) = _
    rw [unh_ref _ (by rw [q]; decide), q]
    rfl
  split
  · subst p
    have e : enc [38, 35, 51, 57, 59] = [38, 35, 51, 57, 59] := by decide
    have q : refQ ([35, 51, 57] ++ 59 :: r) = _ := refQ_name [35, 51, 57] r (by decide)
    rw [show nameP [35, 51, 57] = 39 by decide] at q
    rw [e]
    show unh (38 :: ([35, 51, 57] ++ 59 :: r)) = _
    rw [unh_ref _ (by rw [q]; decide), q]
    rfl
  · have e : enc [p] = encodeRune p := by simp [enc]
    rw [e, unh_pass]
    intro hc
    have := encodeRune_mem p hp 38 hc (by decide)
    have : p = 38 := this
    contradiction
theorem unh_html : ∀ (l : List Int), AllPt l → unh (enc (html l)) = enc l
  | [], _ => rfl
  | p :: l, h => by
    rw [html_cons, enc_append, unh_hP p (h p List.mem_cons_self), unh_html l (fun q hq => h q (List.mem_cons_of_mem _ hq)), enc_cons]
end Go.Proofs.YtoddghppbfehpaaDoor
