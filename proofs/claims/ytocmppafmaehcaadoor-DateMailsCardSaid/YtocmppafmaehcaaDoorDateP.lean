/-
  Plain facts on the calendar: how long months and years are, how many days lie ahead of a date, and the date of a number of days. No conditions.
-/
namespace Go.Proofs.YtocmppafmaehcaaDoor

def leap (y : Int) : Bool := decide (y % 400 = 0 ∨ (y % 4 = 0 ∧ 0 < y % 100))
/-- Days of a month. -/
def lenM (y m : Int) : Int := if m = 2 then (if leap y = true then 29 else 28) else if m = 4 ∨ m = 6 ∨ m = 9 ∨ m = 11 then 30 else 31
def lenY (y : Int) : Int := 337 + lenM y 2
/-- Days ahead of a year, from the beginning of the year 1 on. -/
def dby (y : Int) : Int := 365 * (y - 1) + (y - 1) / 4 - (y - 1) / 100 + (y - 1) / 400
/-- Days ahead of a month. -/
def cum (y m : Int) : Int :=
  (if m = 1 then 0 else if m = 2 then 31 else if m = 3 then 59 else if m = 4 then 90 else if m = 5 then 120 else if m = 6 then 151 else if m = 7 then 181 else if m = 8 then 212 else if m = 9 then 243 else if m = 10 then 273 else if m = 11 then 304 else if m = 12 then 334 else 365)
  + (if 3 ≤ m ∧ leap y = true then 1 else 0)
/-- Days from the beginning of the year 1 to a date. -/
def dnum (y m d : Int) : Int := dby y + cum y m + (d - 1)

theorem leap_iff (y : Int) : leap y = true ↔ (y % 400 = 0 ∨ (y % 4 = 0 ∧ 0 < y % 100)) := by simp [leap]
theorem lenM_two (y : Int) : lenM y 2 = if leap y = true then 29 else 28 := by simp [lenM]
theorem lenM_bd (y m : Int) : 28 ≤ lenM y m ∧ lenM y m ≤ 31 := by
  unfold lenM
  repeat' split
  all_goals omega
theorem lenY_bd (y : Int) : 365 ≤ lenY y ∧ lenY y ≤ 366 := by
  unfold lenY
  rw [lenM_two]
  split <;> omega
theorem dby_succ (y : Int) : dby (y + 1) = dby y + lenY y := by
  unfold dby lenY
  rw [lenM_two]
  by_cases h : leap y = true
  · rw [if_pos h]
    rw [leap_iff] at h
    omega
  · rw [if_neg h]
    rw [leap_iff] at h
    omega
theorem dby_one : dby 1 = 0 := by decide
theorem dby_last : dby 10000 = 3652059 := by decide
theorem dby_mono (a b : Int) (h : a ≤ b) : dby a ≤ dby b := by unfold dby; omega
theorem dby_strict (a b : Int) (h : a < b) : dby a + 365 ≤ dby b := by unfold dby; omega
theorem cum_one (y : Int) : cum y 1 = 0 := by simp [cum]
theorem cum_end (y : Int) : cum y 13 = lenY y := by
  unfold cum lenY
  rw [lenM_two]
  by_cases h : leap y = true
  · simp [h]
  · simp [h]
theorem cum_succ (y m : Int) (h1 : 1 ≤ m) (h2 : m ≤ 12) : cum y (m + 1) = cum y m + lenM y m := by
  have hc : m = 1 ∨ m = 2 ∨ m = 3 ∨ m = 4 ∨ m = 5 ∨ m = 6 ∨ m = 7 ∨ m = 8 ∨ m = 9 ∨ m = 10 ∨ m = 11 ∨ m = 12 := by omega
  unfold cum lenM
  rcases hc with rfl | rfl | rfl | rfl | rfl | rfl | rfl | rfl | rfl | rfl | rfl | rfl
  all_goals (by_cases h : leap y = true <;> simp [h])
theorem cum_mono (y m k : Int) (h1 : 1 ≤ m) (h2 : m < k) (h3 : k ≤ 13) : cum y m + lenM y m ≤ cum y k := by
  have h : ∀ n : Nat, ∀ k : Int, k = m + 1 + n → k ≤ 13 → cum y m + lenM y m ≤ cum y k := by
    intro n
    induction n with
    | zero => intro k hk h3; subst hk; rw [show m + 1 + ((0 : Nat) : Int) = m + 1 by omega, cum_succ y m h1 (by omega)]; omega
    | succ n ih =>
      intro k hk h3
      have := ih (k - 1) (by omega) (by omega)
      have hs := cum_succ y (k - 1) (by omega) (by omega)
      rw [show k - 1 + 1 = k by omega] at hs
      have := lenM_bd y (k - 1)
      omega
  exact h (k - m - 1).toNat k (by omega) h3
/-- A date of the calendar. -/
def IsDate (y m d : Int) : Prop := 1 ≤ y ∧ y ≤ 9999 ∧ 1 ≤ m ∧ m ≤ 12 ∧ 1 ≤ d ∧ d ≤ lenM y m
theorem dnum_in_year (y m d : Int) (hm : 1 ≤ m) (hm2 : m ≤ 12) (hd : 1 ≤ d) (hd2 : d ≤ lenM y m) : dby y ≤ dnum y m d ∧ dnum y m d < dby (y + 1) := by
  unfold dnum
  rw [dby_succ]
  have hc : 0 ≤ cum y m := by
    by_cases h : m = 1
    · subst h; rw [cum_one]; omega
    · have h7 := cum_mono y 1 m (by omega) (by omega) (by omega)
      have := lenM_bd y 1
      rw [cum_one] at h7
      omega
  have he := cum_mono y m 13 hm (by omega) (by omega)
  rw [cum_end] at he
  omega
theorem dnum_bd (y m d : Int) (h : IsDate y m d) : 0 ≤ dnum y m d ∧ dnum y m d ≤ 3652058 := by
  obtain ⟨h1, h2, h3, h4, h5, h6⟩ := h
  have hy := dnum_in_year y m d h3 h4 h5 h6
  have ha := dby_mono 1 y h1
  have hb := dby_mono (y + 1) 10000 (by omega)
  rw [dby_one] at ha
  rw [dby_last] at hb
  omega
/-- Each number of days is of one date alone. -/
theorem year_unique (a b n : Int) (h1 : dby a ≤ n) (h2 : n < dby (a + 1)) (h3 : dby b ≤ n) (h4 : n < dby (b + 1)) : a = b := by
  by_cases h : a < b
  · have := dby_mono (a + 1) b (by omega); omega
  · by_cases h' : b < a
    · have := dby_mono (b + 1) a (by omega); omega
    · omega
theorem month_unique (y a b n : Int) (ha : 1 ≤ a) (ha2 : a ≤ 12) (hb : 1 ≤ b) (hb2 : b ≤ 12) (h1 : cum y a ≤ n) (h2 : n < cum y a + lenM y a) (h3 : cum y b ≤ n) (h4 : n < cum y b + lenM y b) : a = b := by
  by_cases h : a < b
  · have := cum_mono y a b ha h (by omega); omega
  · by_cases h' : b < a
    · have := cum_mono y b a hb h' (by omega); omega
    · omega
theorem dnum_unique (y m d y' m' d' : Int) (h : IsDate y m d) (h' : IsDate y' m' d') (e : dnum y m d = dnum y' m' d') : y = y' ∧ m = m' ∧ d = d' := by
  obtain ⟨h1, h2, h3, h4, h5, h6⟩ := h
  obtain ⟨g1, g2, g3, g4, g5, g6⟩ := h'
  have hy := dnum_in_year y m d h3 h4 h5 h6
  have gy := dnum_in_year y' m' d' g3 g4 g5 g6
  have e1 := year_unique y y' (dnum y m d) hy.1 hy.2 (by omega) (by omega)
  subst e1
  unfold dnum at e
  have e2 := month_unique y m m' (cum y m + (d - 1)) h3 h4 g3 g4 (by omega) (by omega) (by omega) (by omega)
  subst e2
  exact ⟨rfl, rfl, by omega⟩

/-! The date of a number of days, by looking for its year and its month. -/
def yearN : Nat → Int → Int → Int × Int
  | 0, y, l => (y, l)
  | n + 1, y, l => if l < lenY y then (y, l) else yearN n (y + 1) (l - lenY y)
theorem yearN_spec : ∀ (n : Nat) (y l : Int), 0 ≤ l → dby y + l < dby (y + n + 1) → y ≤ (yearN n y l).1 ∧ (yearN n y l).1 ≤ y + n ∧ 0 ≤ (yearN n y l).2 ∧ (yearN n y l).2 < lenY (yearN n y l).1 ∧ dby (yearN n y l).1 + (yearN n y l).2 = dby y + l
  | 0, y, l, h0, h1 => by
    show y ≤ y ∧ y ≤ y + ((0 : Nat) : Int) ∧ 0 ≤ l ∧ l < lenY y ∧ dby y + l = dby y + l
    rw [show y + ((0 : Nat) : Int) + 1 = y + 1 by omega, dby_succ] at h1
    omega
  | n + 1, y, l, h0, h1 => by
    unfold yearN
    split
    · show y ≤ y ∧ y ≤ y + ((n + 1 : Nat) : Int) ∧ 0 ≤ l ∧ l < lenY y ∧ dby y + l = dby y + l
      omega
    · rename_i hl
      have hs := dby_succ y
      have ih := yearN_spec n (y + 1) (l - lenY y) (by omega) (by rw [show y + 1 + (n : Int) + 1 = y + ((n + 1 : Nat) : Int) + 1 by omega]; omega)
      refine ⟨by omega, by omega, ih.2.2.1, ih.2.2.2.1, by omega⟩
def monthN (y : Int) : Nat → Int → Int → Int × Int
  | 0, m, l => (m, l)
  | n + 1, m, l => if l < lenM y m then (m, l) else monthN y n (m + 1) (l - lenM y m)
theorem monthN_spec (y : Int) : ∀ (n : Nat) (m l : Int), 1 ≤ m → m + n ≤ 12 → 0 ≤ l → cum y m + l < cum y (m + n + 1) → m ≤ (monthN y n m l).1 ∧ (monthN y n m l).1 ≤ m + n ∧ 0 ≤ (monthN y n m l).2 ∧ (monthN y n m l).2 < lenM y (monthN y n m l).1 ∧ cum y (monthN y n m l).1 + (monthN y n m l).2 = cum y m + l
  | 0, m, l, h1, h2, h0, h3 => by
    show m ≤ m ∧ m ≤ m + ((0 : Nat) : Int) ∧ 0 ≤ l ∧ l < lenM y m ∧ cum y m + l = cum y m + l
    rw [show m + ((0 : Nat) : Int) + 1 = m + 1 by omega, cum_succ y m h1 (by omega)] at h3
    omega
  | n + 1, m, l, h1, h2, h0, h3 => by
    unfold monthN
    split
    · show m ≤ m ∧ m ≤ m + ((n + 1 : Nat) : Int) ∧ 0 ≤ l ∧ l < lenM y m ∧ cum y m + l = cum y m + l
      omega
    · rename_i hl
      have hs := cum_succ y m h1 (by omega)
      have ih := monthN_spec y n (m + 1) (l - lenM y m) (by omega) (by omega) (by omega) (by rw [show m + 1 + (n : Int) + 1 = m + ((n + 1 : Nat) : Int) + 1 by omega]; omega)
      refine ⟨by omega, by omega, ih.2.2.1, ih.2.2.2.1, by omega⟩
/-- The year, the month and the day of a number of days. -/
def yOf (n : Int) : Int := (yearN 9998 1 n).1
def mOf (n : Int) : Int := (monthN (yOf n) 11 1 (yearN 9998 1 n).2).1
def dOf (n : Int) : Int := (monthN (yOf n) 11 1 (yearN 9998 1 n).2).2 + 1
theorem civ_spec (n : Int) (h0 : 0 ≤ n) (h1 : n ≤ 3652058) : IsDate (yOf n) (mOf n) (dOf n) ∧ dnum (yOf n) (mOf n) (dOf n) = n := by
  have hy := yearN_spec 9998 1 n h0 (by rw [show (1 : Int) + ((9998 : Nat) : Int) + 1 = 10000 by omega, dby_one, dby_last]; omega)
  have hm := monthN_spec (yOf n) 11 1 (yearN 9998 1 n).2 (by omega) (by omega) hy.2.2.1 (by
    rw [show (1 : Int) + ((11 : Nat) : Int) + 1 = 13 by omega, cum_one, cum_end]
    have := hy.2.2.2.1
    show 0 + _ < lenY (yearN 9998 1 n).1
    omega)
  have e1 : yOf n = (yearN 9998 1 n).1 := rfl
  have e2 : mOf n = (monthN (yOf n) 11 1 (yearN 9998 1 n).2).1 := rfl
  have e3 : dOf n = (monthN (yOf n) 11 1 (yearN 9998 1 n).2).2 + 1 := rfl
  rw [← e2] at hm
  rw [cum_one] at hm
  rw [← e1, dby_one] at hy
  unfold IsDate dnum
  omega
/-- A date by what is known of it. -/
theorem civ_of (y m d n : Int) (h : IsDate y m d) (e : dnum y m d = n) : yOf n = y ∧ mOf n = m ∧ dOf n = d := by
  have hb := dnum_bd y m d h
  have hc := civ_spec n (by omega) (by omega)
  exact dnum_unique _ _ _ _ _ _ hc.1 h (hc.2.trans e.symm)
end Go.Proofs.YtocmppafmaehcaaDoor
