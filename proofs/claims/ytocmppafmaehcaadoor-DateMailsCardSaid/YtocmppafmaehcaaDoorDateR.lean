/-
  Plain facts on the order of dates' texts and on days of the week: texts rise as their times do. No conditions.
-/
import Derived.Test.YtocmppafmaehcaaDoorDateQ
import GoSem.Op.String
namespace Go.Proofs.YtocmppafmaehcaaDoor
open Go.Op (bytesLess)

/-- How two texts of one length stand to each other. -/
def Cmp (a b : List UInt8) (lt eq : Prop) : Prop := a.length = b.length ∧ (bytesLess a b = true ↔ lt) ∧ (a = b ↔ eq)
theorem less_app : ∀ (a b x y : List UInt8), a.length = b.length → (bytesLess (a ++ x) (b ++ y) = true ↔ (bytesLess a b = true ∨ (a = b ∧ bytesLess x y = true)))
  | [], [], x, y, _ => by simp [bytesLess]
  | [], _ :: _, _, _, h => by cases h
  | _ :: _, [], _, _, h => by cases h
  | c :: a, d :: b, x, y, h => by
    have ih := less_app a b x y (by simpa using h)
    simp only [List.cons_append, bytesLess, Bool.or_eq_true, Bool.and_eq_true, decide_eq_true_eq, beq_iff_eq, ih, List.cons.injEq]
    constructor
    · rintro (h1 | ⟨h1, h2 | ⟨h2, h3⟩⟩)
      · exact .inl (.inl h1)
      · exact .inl (.inr ⟨h1, h2⟩)
      · exact .inr ⟨⟨h1, h2⟩, h3⟩
    · rintro ((h1 | ⟨h1, h2⟩) | ⟨⟨h1, h2⟩, h3⟩)
      · exact .inl h1
      · exact .inr ⟨h1, .inl h2⟩
      · exact .inr ⟨h1, .inr ⟨h2, h3⟩⟩
theorem Cmp.app {a b x y : List UInt8} {l1 e1 l2 e2 : Prop} (h : Cmp a b l1 e1) (k : Cmp x y l2 e2) : Cmp (a ++ x) (b ++ y) (l1 ∨ (e1 ∧ l2)) (e1 ∧ e2) := by
  obtain ⟨h1, h2, h3⟩ := h
  obtain ⟨k1, k2, k3⟩ := k
  refine ⟨by rw [List.length_append, List.length_append, h1, k1], ?_, ?_⟩
  · rw [less_app a b x y h1, h2, h3, k2]
  · rw [← h3, ← k3]
    constructor
    · intro e
      exact List.append_inj e h1
    · rintro ⟨rfl, rfl⟩; rfl
theorem Cmp.sep {x y : List UInt8} {l e : Prop} (c : UInt8) (k : Cmp x y l e) : Cmp (c :: x) (c :: y) l e := by
  obtain ⟨k1, k2, k3⟩ := k
  refine ⟨by simp [k1], ?_, ?_⟩
  · simp only [bytesLess, Bool.or_eq_true, Bool.and_eq_true, decide_eq_true_eq, beq_iff_eq, ← k2]
    constructor
    · rintro (h | h)
      · exact absurd h (UInt8.lt_irrefl c)
      · exact h.2
    · intro h; exact .inr ⟨trivial, h⟩
  · rw [← k3]; simp
theorem Cmp.of {a b : List UInt8} {l e l' e' : Prop} (h : Cmp a b l e) (hl : l ↔ l') (he : e ↔ e') : Cmp a b l' e' :=
  ⟨h.1, h.2.1.trans hl, h.2.2.trans he⟩
theorem Cmp.same (a : List UInt8) : Cmp a a False True := by
  refine ⟨rfl, ?_, by simp⟩
  induction a with
  | nil => simp [bytesLess]
  | cons c a ih => simp [bytesLess, UInt8.lt_irrefl] at *; exact ih
theorem cmp_dg (m n : Int) (hm : 0 ≤ m ∧ m ≤ 9) (hn : 0 ≤ n ∧ n ≤ 9) : Cmp [dg m] [dg n] (m < n) (m = n) := by
  have a := dg_nat m hm.1 hm.2
  have b := dg_nat n hn.1 hn.2
  refine ⟨rfl, ?_, ?_⟩
  · simp only [bytesLess, Bool.and_false, Bool.or_false, decide_eq_true_eq, UInt8.lt_iff_toNat_lt]
    omega
  · simp only [List.cons.injEq, and_true]
    rw [← UInt8.toNat_inj]
    omega
theorem cmp_two (m n : Int) (hm : 0 ≤ m ∧ m ≤ 99) (hn : 0 ≤ n ∧ n ≤ 99) : Cmp (two m) (two n) (m < n) (m = n) :=
  ((cmp_dg (m / 10) (n / 10) (by omega) (by omega)).app (cmp_dg (m % 10) (n % 10) (by omega) (by omega))).of (by omega) (by omega)
theorem cmp_four (m n : Int) (hm : 0 ≤ m ∧ m ≤ 9999) (hn : 0 ≤ n ∧ n ≤ 9999) : Cmp (four m) (four n) (m < n) (m = n) :=
  ((cmp_two (m / 100) (n / 100) (by omega) (by omega)).app (cmp_two (m % 100) (n % 100) (by omega) (by omega))).of (by omega) (by omega)
theorem dnum_lt (y m d y' m' d' : Int) (h : IsDate y m d) (h' : IsDate y' m' d') (hl : y < y' ∨ (y = y' ∧ (m < m' ∨ (m = m' ∧ d < d')))) : dnum y m d < dnum y' m' d' := by
  obtain ⟨h1, h2, h3, h4, h5, h6⟩ := h
  obtain ⟨g1, g2, g3, g4, g5, g6⟩ := h'
  rcases hl with hl | ⟨rfl, hl | ⟨rfl, hl⟩⟩
  · have a := dnum_in_year y m d h3 h4 h5 h6
    have b := dnum_in_year y' m' d' g3 g4 g5 g6
    have c := dby_mono (y + 1) y' (by omega)
    omega
  · have c := cum_mono y m m' h3 hl (by omega)
    unfold dnum
    omega
  · unfold dnum
    omega
theorem dnum_lex (y m d y' m' d' : Int) (h : IsDate y m d) (h' : IsDate y' m' d') : (y < y' ∨ (y = y' ∧ (m < m' ∨ (m = m' ∧ d < d')))) ↔ dnum y m d < dnum y' m' d' := by
  refine ⟨dnum_lt y m d y' m' d' h h', fun hl => ?_⟩
  apply Decidable.byContradiction
  intro hn
  have hc : (y' < y ∨ (y' = y ∧ (m' < m ∨ (m' = m ∧ d' < d)))) ∨ (y = y' ∧ m = m' ∧ d = d') := by omega
  rcases hc with hc | ⟨rfl, rfl, rfl⟩
  · have := dnum_lt y' m' d' y m d h' h hc
    omega
  · omega
theorem day_cmp (t u : Int) : Cmp (dayL t) (dayL u) (daysT t < daysT u) (daysT t = daysT u) := by
  have a := parts_of t
  have b := parts_of u
  obtain ⟨c1, c2⟩ := civ_spec (daysT t) a.1 a.2.1
  obtain ⟨d1, d2⟩ := civ_spec (daysT u) b.1 b.2.1
  obtain ⟨p1, p2, p3, _⟩ := parts_bd t
  obtain ⟨q1, q2, q3, _⟩ := parts_bd u
  have hl := dnum_lex _ _ _ _ _ _ c1 d1
  rw [c2, d2] at hl
  have he : (yOf (daysT t) = yOf (daysT u) ∧ (mOf (daysT t) = mOf (daysT u) ∧ dOf (daysT t) = dOf (daysT u))) ↔ daysT t = daysT u := by
    constructor
    · rintro ⟨e1, e2, e3⟩
      rw [e1, e2, e3] at c2
      omega
    · intro e; rw [e]; exact ⟨rfl, rfl, rfl⟩
  exact ((cmp_four _ _ (by omega) (by omega)).app (Cmp.sep 45 ((cmp_two _ _ (by omega) (by omega)).app (Cmp.sep 45 (cmp_two _ _ (by omega) (by omega)))))).of hl he
theorem clock_cmp (t u : Int) : Cmp (clockL t) (clockL u) (secsT t < secsT u) (secsT t = secsT u) := by
  have a := parts_of t
  have b := parts_of u
  obtain ⟨_, _, _, p1, p2, p3⟩ := parts_bd t
  obtain ⟨_, _, _, q1, q2, q3⟩ := parts_bd u
  refine ((cmp_two (hourT t) (hourT u) (by omega) (by omega)).app (Cmp.sep 58 ((cmp_two (minT t) (minT u) (by omega) (by omega)).app (Cmp.sep 58 (cmp_two (secT t) (secT u) (by omega) (by omega)))))).of ?_ ?_
  · unfold hourT minT secT; omega
  · unfold hourT minT secT; omega
/-- Texts rise as their times do. -/
theorem print_cmp (t u : Int) : Cmp (printL t) (printL u) (clampT t < clampT u) (clampT t = clampT u) := by
  have a := parts_of t
  have b := parts_of u
  refine ((day_cmp t u).app (Cmp.sep 84 ((clock_cmp t u).app (Cmp.same [90])))).of ?_ ?_
  · rw [and_false, or_false]; omega
  · rw [and_true]; omega
/-- Some days behind. -/
theorem clamp_self (t : Int) (h : lowT ≤ t ∧ t ≤ highT) : clampT t = t := by unfold clampT lowT highT at *; omega
theorem days_add (t i : Int) (h : lowT ≤ t ∧ t ≤ highT) (h' : lowT ≤ t + i * 86400 ∧ t + i * 86400 ≤ highT) : daysT (t + i * 86400) = daysT t + i ∧ secsT (t + i * 86400) = secsT t := by
  unfold daysT secsT
  rw [clamp_self t h, clamp_self _ h']
  omega
theorem clock_add (t i : Int) (h : lowT ≤ t ∧ t ≤ highT) (h' : lowT ≤ t + i * 86400 ∧ t + i * 86400 ≤ highT) : clockL (t + i * 86400) = clockL t := by
  unfold clockL hourT minT secT
  rw [(days_add t i h h').2]
theorem print_parts (t : Int) : (printL t).take 10 = dayL t ∧ (printL t).drop 10 = 84 :: (clockL t ++ [90]) ∧ (printL t).length = 20 := by
  unfold printL dayL clockL dayT clockT four two
  exact ⟨rfl, rfl, rfl⟩
theorem mail_week (t : Int) : (mailL t).take 3 = weekN.getD (daysT t % 7).toNat [] := by
  have h := parts_of t
  obtain ⟨w1, w2, w3⟩ := week_at (daysT t % 7).toNat (by omega)
  unfold mailL mailT
  rw [List.append_assoc]
  generalize weekN.getD (daysT t % 7).toNat [] = wk at *
  rw [← w2, List.take_left]
theorem week_inj (i j : Nat) (hi : i < 7) (hj : j < 7) (h : weekN.getD i [] = weekN.getD j []) : i = j := by
  have a := (week_at i hi).1
  have b := (week_at j hj).1
  rw [h, b] at a
  omega
end Go.Proofs.YtocmppafmaehcaaDoor
