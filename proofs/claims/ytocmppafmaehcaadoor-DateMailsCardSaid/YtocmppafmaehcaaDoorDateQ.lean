/-
  Plain facts on the texts of dates: digits, patterns, offsets, the two forms, and that what is written is read again. No conditions.
-/
import Derived.Test.YtocmppafmaehcaaDoorDateP
namespace Go.Proofs.YtocmppafmaehcaaDoor

def isDg (c : UInt8) : Bool := decide (48 ≤ c.toNat ∧ c.toNat ≤ 57)
def dg (n : Int) : UInt8 := (48 + n).toNat.toUInt8
theorem dg_nat (n : Int) (h0 : 0 ≤ n) (h1 : n ≤ 9) : ((dg n).toNat : Int) = 48 + n := by
  unfold dg
  rw [Nat.toUInt8_eq, UInt8.toNat_ofNat']
  omega
theorem isDg_dg (n : Int) (h0 : 0 ≤ n) (h1 : n ≤ 9) : isDg (dg n) = true := by
  have := dg_nat n h0 h1
  unfold isDg
  rw [decide_eq_true_eq]
  omega
theorem dg_ne (n : Int) (h0 : 0 ≤ n) (h1 : n ≤ 9) (c : UInt8) (hc : c.toNat < 48 ∨ 57 < c.toNat) : dg n ≠ c := by
  have := dg_nat n h0 h1
  rintro rfl
  omega
def two (n : Int) : List UInt8 := [dg (n / 10), dg (n % 10)]
def four (n : Int) : List UInt8 := two (n / 100) ++ two (n % 100)
theorem two_length (n : Int) : (two n).length = 2 := rfl
theorem four_length (n : Int) : (four n).length = 4 := rfl
/-- The number of digits; -1: not just some. -/
def valG (l : List UInt8) : Int := l.foldl (fun n c => 10 * n + ((c.toNat : Int) - 48)) 0
def digP (l : List UInt8) : Int := if l.all isDg = true then valG l else -1
theorem digP_two (n : Int) (h0 : 0 ≤ n) (h1 : n ≤ 99) : digP (two n) = n := by
  have a := isDg_dg (n / 10) (by omega) (by omega)
  have b := isDg_dg (n % 10) (by omega) (by omega)
  have a2 := dg_nat (n / 10) (by omega) (by omega)
  have b2 := dg_nat (n % 10) (by omega) (by omega)
  unfold digP two
  simp only [List.all_cons, List.all_nil, a, b, Bool.and_true, if_true, valG, List.foldl_cons, List.foldl_nil, a2, b2]
  omega
theorem digP_four (n : Int) (h0 : 0 ≤ n) (h1 : n ≤ 9999) : digP (four n) = n := by
  have a := isDg_dg (n / 100 / 10) (by omega) (by omega)
  have b := isDg_dg (n / 100 % 10) (by omega) (by omega)
  have c := isDg_dg (n % 100 / 10) (by omega) (by omega)
  have d := isDg_dg (n % 100 % 10) (by omega) (by omega)
  have a2 := dg_nat (n / 100 / 10) (by omega) (by omega)
  have b2 := dg_nat (n / 100 % 10) (by omega) (by omega)
  have c2 := dg_nat (n % 100 / 10) (by omega) (by omega)
  have d2 := dg_nat (n % 100 % 10) (by omega) (by omega)
  unfold digP four two
  simp only [List.cons_append, List.nil_append, List.all_cons, List.all_nil, a, b, c, d, Bool.and_true, if_true, valG, List.foldl_cons, List.foldl_nil, a2, b2, c2, d2]
  omega
/-- A text of a pattern: 9 is a digit, all else itself. -/
def likeP : List UInt8 → List UInt8 → Bool
  | [], [] => true
  | a :: s, b :: p => (if b = 57 then isDg a else a == b) && likeP s p
  | _, _ => false
/-- The time of parts. -/
def timeP (y mo d h mi s off : Int) : Option Int :=
  if 1 ≤ y ∧ y ≤ 9999 ∧ 1 ≤ mo ∧ mo ≤ 12 ∧ 1 ≤ d ∧ d ≤ lenM y mo ∧ h ≤ 23 ∧ mi ≤ 59 ∧ s ≤ 60 then some (86400 * (dnum y mo d - 719162) + 3600 * h + 60 * mi + min s 59 - off) else none
/-- An offset. -/
def offP (z colon : List UInt8) : Option Int :=
  if likeP z ([43, 57, 57] ++ colon ++ [57, 57]) = true ∨ likeP z ([45, 57, 57] ++ colon ++ [57, 57]) = true then
    (if digP ((z.drop 1).take 2) < 24 ∧ digP (z.drop (z.length - 2)) < 60 then
      some (if z.head? = some 45 then -(3600 * digP ((z.drop 1).take 2) + 60 * digP (z.drop (z.length - 2))) else 3600 * digP ((z.drop 1).take 2) + 60 * digP (z.drop (z.length - 2))) else none)
  else none
/-- What is left behind a full stop and digits. -/
def fracP (z : List UInt8) : Option (List UInt8) :=
  if z.head? = some 46 then (if (z.drop 1).takeWhile isDg = [] then none else some ((z.drop 1).dropWhile isDg)) else some z
def zoneA (z : List UInt8) : Option Int := if z = [90] ∨ z = [122] then some 0 else offP z [58]
def patA (c : UInt8) : List UInt8 := [57, 57, 57, 57, 45, 57, 57, 45, 57, 57, c, 57, 57, 58, 57, 57, 58, 57, 57]
/-- The document's Atom. -/
def atomP (l : List UInt8) : Option Int :=
  if l.length < 20 then none
  else if likeP (l.take 19) (patA 84) = true ∨ likeP (l.take 19) (patA 116) = true ∨ likeP (l.take 19) (patA 32) = true then
    (fracP (l.drop 19)).bind fun z => (zoneA z).bind fun off =>
      timeP (digP (l.take 4)) (digP ((l.drop 5).take 2)) (digP ((l.drop 8).take 2)) (digP ((l.drop 11).take 2)) (digP ((l.drop 14).take 2)) (digP ((l.drop 17).take 2)) off
  else none
/-- A day and a clock, as they are written. -/
def dayT (y mo d : Int) : List UInt8 := four y ++ (45 :: (two mo ++ (45 :: two d)))
def clockT (h mi s : Int) : List UInt8 := two h ++ (58 :: (two mi ++ (58 :: two s)))
theorem atom_text (y mo d h mi s : Int) (z : List UInt8) (hz : z ≠ []) (hy : 0 ≤ y ∧ y ≤ 9999) (hmo : 0 ≤ mo ∧ mo ≤ 99) (hd : 0 ≤ d ∧ d ≤ 99) (hh : 0 ≤ h ∧ h ≤ 99) (hmi : 0 ≤ mi ∧ mi ≤ 99) (hs : 0 ≤ s ∧ s ≤ 99) :
    atomP (dayT y mo d ++ (84 :: (clockT h mi s ++ z))) = (fracP z).bind fun z => (zoneA z).bind fun off => timeP y mo d h mi s off := by
  have hl : 1 ≤ z.length := by
    cases z with
    | nil => exact absurd rfl hz
    | cons c r => simp
  have e19 : (dayT y mo d ++ (84 :: (clockT h mi s ++ z))).take 19 = dayT y mo d ++ (84 :: clockT h mi s) := by
    unfold dayT clockT four two; rfl
  have d19 : (dayT y mo d ++ (84 :: (clockT h mi s ++ z))).drop 19 = z := by
    unfold dayT clockT four two; rfl
  have hlen : (dayT y mo d ++ (84 :: (clockT h mi s ++ z))).length = 19 + z.length := by
    unfold dayT clockT four two; simp; omega
  have p1 : (dayT y mo d ++ (84 :: (clockT h mi s ++ z))).take 4 = four y := by unfold dayT clockT four two; rfl
  have p2 : ((dayT y mo d ++ (84 :: (clockT h mi s ++ z))).drop 5).take 2 = two mo := by unfold dayT clockT four two; rfl
  have p3 : ((dayT y mo d ++ (84 :: (clockT h mi s ++ z))).drop 8).take 2 = two d := by unfold dayT clockT four two; rfl
  have p4 : ((dayT y mo d ++ (84 :: (clockT h mi s ++ z))).drop 11).take 2 = two h := by unfold dayT clockT four two; rfl
  have p5 : ((dayT y mo d ++ (84 :: (clockT h mi s ++ z))).drop 14).take 2 = two mi := by unfold dayT clockT four two; rfl
  have p6 : ((dayT y mo d ++ (84 :: (clockT h mi s ++ z))).drop 17).take 2 = two s := by unfold dayT clockT four two; rfl
  unfold atomP
  rw [hlen, if_neg (by omega), e19, if_pos, d19, p1, p2, p3, p4, p5, p6, digP_four y hy.1 hy.2, digP_two mo hmo.1 hmo.2, digP_two d hd.1 hd.2, digP_two h hh.1 hh.2, digP_two mi hmi.1 hmi.2, digP_two s hs.1 hs.2]
  left
  unfold dayT clockT four two patA
  simp [likeP, isDg_dg (y / 100 / 10) (by omega) (by omega), isDg_dg (y / 100 % 10) (by omega) (by omega), isDg_dg (y % 100 / 10) (by omega) (by omega), isDg_dg (y % 10) (by omega) (by omega),
    isDg_dg (mo / 10) (by omega) (by omega), isDg_dg (mo % 10) (by omega) (by omega), isDg_dg (d / 10) (by omega) (by omega), isDg_dg (d % 10) (by omega) (by omega), isDg_dg (h / 10) (by omega) (by omega), isDg_dg (h % 10) (by omega) (by omega),
    isDg_dg (mi / 10) (by omega) (by omega), isDg_dg (mi % 10) (by omega) (by omega), isDg_dg (s / 10) (by omega) (by omega), isDg_dg (s % 10) (by omega) (by omega)]

/-! Words of a text. -/
def wordsP : List UInt8 → List (List UInt8)
  | [] => [[]]
  | c :: r => if c = 32 then [] :: wordsP r else match wordsP r with
    | [] => [[c]]
    | w :: ws => (c :: w) :: ws
theorem words_one : ∀ a : List UInt8, (32 : UInt8) ∉ a → wordsP a = [a]
  | [], _ => rfl
  | c :: r, h => by
    have hc : c ≠ 32 := fun e => h (e ▸ List.mem_cons_self)
    have ih := words_one r (fun e => h (List.mem_cons_of_mem _ e))
    unfold wordsP
    rw [if_neg hc, ih]
theorem words_cons : ∀ (a r : List UInt8), (32 : UInt8) ∉ a → wordsP (a ++ 32 :: r) = a :: wordsP r
  | [], r, _ => by simp [wordsP]
  | c :: a, r, h => by
    have hc : c ≠ 32 := fun e => h (e ▸ List.mem_cons_self)
    have ih := words_cons a r (fun e => h (List.mem_cons_of_mem _ e))
    rw [List.cons_append]
    show (if c = 32 then _ else _) = _
    rw [if_neg hc, ih]
def placeP (w : List UInt8) : List (List UInt8) → Int
  | [] => -1
  | x :: r => if x = w then 0 else if placeP w r < 0 then -1 else placeP w r + 1
def weekN : List (List UInt8) := [[77, 111, 110], [84, 117, 101], [87, 101, 100], [84, 104, 117], [70, 114, 105], [83, 97, 116], [83, 117, 110]]
def monthsN : List (List UInt8) := [[74, 97, 110], [70, 101, 98], [77, 97, 114], [65, 112, 114], [77, 97, 121], [74, 117, 110], [74, 117, 108], [65, 117, 103], [83, 101, 112], [79, 99, 116], [78, 111, 118], [68, 101, 99]]
def zonesN : List (List UInt8) := [[71, 77, 84], [85, 84], [90], [69, 83, 84], [69, 68, 84], [67, 83, 84], [67, 68, 84], [77, 83, 84], [77, 68, 84], [80, 83, 84], [80, 68, 84]]
def zoneM (e : List UInt8) : Option Int := if 0 ≤ placeP e zonesN then some (-3600 * ([0, 0, 0, 5, 4, 6, 5, 7, 6, 8, 7] : List Int).getD (placeP e zonesN).toNat 0) else offP e []
def mailHead (w : List (List UInt8)) : Option (List (List UInt8)) :=
  if w.length = 6 then (if (w.getD 0 []).length = 4 ∧ (w.getD 0 [])[3]? = some 44 ∧ 0 ≤ placeP ((w.getD 0 []).take 3) weekN then some (w.drop 1) else none) else some w
def mailYear (c : List UInt8) : Int := if c.length = 2 then (if digP c < 50 then digP c + 2000 else digP c + 1900) else digP c
def mailBody (w : List (List UInt8)) : Option Int :=
  match w with
  | [a, b, c, d, e] =>
    if (likeP a [57] = true ∨ likeP a [57, 57] = true) ∧ (likeP c [57, 57] = true ∨ likeP c [57, 57, 57, 57] = true) ∧ (likeP d [57, 57, 58, 57, 57] = true ∨ likeP d [57, 57, 58, 57, 57, 58, 57, 57] = true) then
      (zoneM e).bind fun off => timeP (mailYear c) (placeP b monthsN + 1) (digP a) (digP (d.take 2)) (digP ((d.drop 3).take 2)) (if d.length = 8 then digP (d.drop 6) else 0) off
    else none
  | _ => none
/-- The document's Mail. -/
def mailP (l : List UInt8) : Option Int := (mailHead (wordsP l)).bind mailBody
theorem week_at (k : Nat) (h : k < 7) : placeP (weekN.getD k []) weekN = k ∧ (weekN.getD k []).length = 3 ∧ (32 : UInt8) ∉ weekN.getD k [] := by
  match k, h with
  | 0, _ => decide
  | 1, _ => decide
  | 2, _ => decide
  | 3, _ => decide
  | 4, _ => decide
  | 5, _ => decide
  | 6, _ => decide
theorem month_at (k : Nat) (h : k < 12) : placeP (monthsN.getD k []) monthsN = k ∧ (monthsN.getD k []).length = 3 ∧ (32 : UInt8) ∉ monthsN.getD k [] := by
  match k, h with
  | 0, _ => decide
  | 1, _ => decide
  | 2, _ => decide
  | 3, _ => decide
  | 4, _ => decide
  | 5, _ => decide
  | 6, _ => decide
  | 7, _ => decide
  | 8, _ => decide
  | 9, _ => decide
  | 10, _ => decide
  | 11, _ => decide
theorem two_no (n : Int) (h : 0 ≤ n ∧ n ≤ 99) (c : UInt8) (hc : c.toNat < 48 ∨ 57 < c.toNat) : c ∉ two n := by
  unfold two
  simp only [List.mem_cons, List.not_mem_nil, or_false, not_or]
  exact ⟨fun e => dg_ne (n / 10) (by omega) (by omega) c hc e.symm, fun e => dg_ne (n % 10) (by omega) (by omega) c hc e.symm⟩
theorem four_no (n : Int) (h : 0 ≤ n ∧ n ≤ 9999) (c : UInt8) (hc : c.toNat < 48 ∨ 57 < c.toNat) : c ∉ four n := by
  unfold four
  rw [List.mem_append, not_or]
  exact ⟨two_no _ (by omega) c hc, two_no _ (by omega) c hc⟩
theorem clock_no (h mi s : Int) (hh : 0 ≤ h ∧ h ≤ 99) (hmi : 0 ≤ mi ∧ mi ≤ 99) (hs : 0 ≤ s ∧ s ≤ 99) : (32 : UInt8) ∉ clockT h mi s := by
  unfold clockT
  simp only [List.mem_append, List.mem_cons, not_or]
  exact ⟨two_no h hh 32 (by decide), by decide, two_no mi hmi 32 (by decide), by decide, two_no s hs 32 (by decide)⟩
/-- A date in RSS's form, as it is written. -/
def mailT (k : Nat) (y mo d h mi s : Int) (z : List UInt8) : List UInt8 :=
  (weekN.getD k [] ++ [44]) ++ 32 :: (two d ++ 32 :: (monthsN.getD (mo - 1).toNat [] ++ 32 :: (four y ++ 32 :: (clockT h mi s ++ 32 :: z))))
theorem mail_text (k : Nat) (y mo d h mi s : Int) (z : List UInt8) (hk : k < 7) (hz : (32 : UInt8) ∉ z) (hy : 0 ≤ y ∧ y ≤ 9999) (hmo : 1 ≤ mo ∧ mo ≤ 12) (hd : 0 ≤ d ∧ d ≤ 99) (hh : 0 ≤ h ∧ h ≤ 99) (hmi : 0 ≤ mi ∧ mi ≤ 99) (hs : 0 ≤ s ∧ s ≤ 99) :
    mailP (mailT k y mo d h mi s z) = (zoneM z).bind fun off => timeP y mo d h mi s off := by
  obtain ⟨w1, w2, w3⟩ := week_at k hk
  obtain ⟨m1, m2, m3⟩ := month_at (mo - 1).toNat (by omega)
  unfold mailP mailT
  rw [words_cons _ _ (by rw [List.mem_append, not_or]; exact ⟨w3, by decide⟩), words_cons _ _ (two_no d hd 32 (by decide)), words_cons _ _ m3, words_cons _ _ (four_no y hy 32 (by decide)), words_cons _ _ (clock_no h mi s hh hmi hs), words_one z hz]
  generalize weekN.getD k [] = wk at *
  generalize monthsN.getD (mo - 1).toNat [] = mn at *
  have e1 : (wk ++ [44]).take 3 = wk := by rw [← w2, List.take_left]
  have e2 : (wk ++ [44])[3]? = some 44 := by rw [List.getElem?_append_right (by omega), w2]; rfl
  unfold mailHead
  simp only [List.length_cons, List.length_nil, List.getD_cons_zero, if_true, List.length_append, w2, e1, e2, w1]
  rw [if_pos ⟨trivial, trivial, by omega⟩]
  simp only [Option.bind_some, List.drop_succ_cons, List.drop_zero, mailBody]
  have dt := digP_two d hd.1 hd.2
  have ht := digP_two h hh.1 hh.2
  have mt := digP_two mi hmi.1 hmi.2
  have st := digP_two s hs.1 hs.2
  have yt := digP_four y hy.1 hy.2
  have c1 : (clockT h mi s).take 2 = two h := by unfold clockT two; rfl
  have c2 : ((clockT h mi s).drop 3).take 2 = two mi := by unfold clockT two; rfl
  have c3 : (clockT h mi s).drop 6 = two s := by unfold clockT two; rfl
  have c4 : (clockT h mi s).length = 8 := rfl
  have y1 : mailYear (four y) = y := by unfold mailYear; rw [four_length, if_neg (by decide), yt]
  rw [if_pos, c1, c2, c3, c4, if_pos rfl, dt, ht, mt, st, y1, m1]
  · rw [show ((((mo - 1).toNat : Nat) : Int)) + 1 = mo by omega]
  · refine ⟨.inr ?_, .inr ?_, .inr ?_⟩
    · unfold two
      simp [likeP, isDg_dg (d / 10) (by omega) (by omega), isDg_dg (d % 10) (by omega) (by omega)]
    · unfold four two
      simp [likeP, isDg_dg (y / 100 / 10) (by omega) (by omega), isDg_dg (y / 100 % 10) (by omega) (by omega), isDg_dg (y % 100 / 10) (by omega) (by omega), isDg_dg (y % 10) (by omega) (by omega)]
    · unfold clockT two
      simp [likeP, isDg_dg (h / 10) (by omega) (by omega), isDg_dg (h % 10) (by omega) (by omega), isDg_dg (mi / 10) (by omega) (by omega), isDg_dg (mi % 10) (by omega) (by omega), isDg_dg (s / 10) (by omega) (by omega), isDg_dg (s % 10) (by omega) (by omega)]

/-! Times. -/
def lowT : Int := -62135596800
def highT : Int := 253402300799
def clampT (t : Int) : Int := max lowT (min highT t)
theorem clampT_bd (t : Int) : lowT ≤ clampT t ∧ clampT t ≤ highT := by unfold clampT lowT highT; omega
theorem low_days : 86400 * (dnum 1 1 1 - 719162) = lowT := by decide
theorem high_days : 86400 * (dnum 9999 12 31 - 719162) + 86399 = highT := by decide
/-- The parts of a time. -/
def daysT (t : Int) : Int := (clampT t - lowT) / 86400
def secsT (t : Int) : Int := (clampT t - lowT) % 86400
theorem parts_of (t : Int) : 0 ≤ daysT t ∧ daysT t ≤ 3652058 ∧ 0 ≤ secsT t ∧ secsT t ≤ 86399 ∧ clampT t = 86400 * (daysT t - 719162) + secsT t := by
  have := clampT_bd t
  unfold daysT secsT
  unfold lowT highT at *
  omega
def hourT (t : Int) : Int := secsT t / 3600
def minT (t : Int) : Int := secsT t / 60 % 60
def secT (t : Int) : Int := secsT t % 60
theorem time_of (t off : Int) : timeP (yOf (daysT t)) (mOf (daysT t)) (dOf (daysT t)) (hourT t) (minT t) (secT t) off = some (clampT t - off) := by
  obtain ⟨h1, h2, h3, h4, h5⟩ := parts_of t
  obtain ⟨⟨c1, c2, c3, c4, c5, c6⟩, c7⟩ := civ_spec (daysT t) h1 h2
  unfold timeP hourT minT secT
  rw [if_pos (by refine ⟨c1, c2, c3, c4, c5, c6, ?_, ?_, ?_⟩ <;> omega), c7]
  congr 1
  omega
def dayL (t : Int) : List UInt8 := dayT (yOf (daysT t)) (mOf (daysT t)) (dOf (daysT t))
def clockL (t : Int) : List UInt8 := clockT (hourT t) (minT t) (secT t)
def printL (t : Int) : List UInt8 := dayL t ++ (84 :: (clockL t ++ [90]))
def mailL (t : Int) : List UInt8 := mailT (daysT t % 7).toNat (yOf (daysT t)) (mOf (daysT t)) (dOf (daysT t)) (hourT t) (minT t) (secT t) [71, 77, 84]
theorem parts_bd (t : Int) : (1 ≤ yOf (daysT t) ∧ yOf (daysT t) ≤ 9999) ∧ (1 ≤ mOf (daysT t) ∧ mOf (daysT t) ≤ 12) ∧ (1 ≤ dOf (daysT t) ∧ dOf (daysT t) ≤ 31) ∧ (0 ≤ hourT t ∧ hourT t ≤ 23) ∧ (0 ≤ minT t ∧ minT t ≤ 59) ∧ (0 ≤ secT t ∧ secT t ≤ 59) := by
  obtain ⟨h1, h2, h3, h4, h5⟩ := parts_of t
  obtain ⟨⟨c1, c2, c3, c4, c5, c6⟩, c7⟩ := civ_spec (daysT t) h1 h2
  have := lenM_bd (yOf (daysT t)) (mOf (daysT t))
  unfold hourT minT secT
  omega
/-- What stands behind the clock says the offset alone. -/
theorem atom_at (t : Int) (z : List UInt8) (hz : z ≠ []) : atomP (dayL t ++ (84 :: (clockL t ++ z))) = (fracP z).bind fun z => (zoneA z).bind fun off => some (clampT t - off) := by
  obtain ⟨b1, b2, b3, b4, b5, b6⟩ := parts_bd t
  unfold dayL clockL
  rw [atom_text _ _ _ _ _ _ z hz (by omega) (by omega) (by omega) (by omega) (by omega) (by omega)]
  congr 1
  funext z
  congr 1
  funext off
  exact time_of t off
theorem mail_at (t : Int) (k : Nat) (z : List UInt8) (hk : k < 7) (hz : (32 : UInt8) ∉ z) : mailP (mailT k (yOf (daysT t)) (mOf (daysT t)) (dOf (daysT t)) (hourT t) (minT t) (secT t) z) = (zoneM z).bind fun off => some (clampT t - off) := by
  obtain ⟨b1, b2, b3, b4, b5, b6⟩ := parts_bd t
  rw [mail_text k _ _ _ _ _ _ z hk hz (by omega) (by omega) (by omega) (by omega) (by omega) (by omega)]
  congr 1
  funext off
  exact time_of t off
/-- What is printed is read again. -/
theorem atom_back (t : Int) : atomP (printL t) = some (clampT t) := by
  unfold printL
  rw [atom_at t [90] (by decide)]
  show some (clampT t - 0) = _
  rw [Int.sub_zero]
theorem mail_back (t : Int) : mailP (mailL t) = some (clampT t) := by
  have h := parts_of t
  unfold mailL
  rw [mail_at t _ _ (by omega) (by decide)]
  have : zoneM [71, 77, 84] = some 0 := by decide
  rw [this]
  show some (clampT t - 0) = _
  rw [Int.sub_zero]
/-- Offsets. -/
theorem off_text (sg : UInt8) (h m : Int) (colon : List UInt8) (hc : colon = [58] ∨ colon = []) (hsg : sg = 43 ∨ sg = 45) (hh : 0 ≤ h ∧ h ≤ 23) (hm : 0 ≤ m ∧ m ≤ 59) :
    offP (sg :: (two h ++ (colon ++ two m))) colon = some (if sg = 45 then -(3600 * h + 60 * m) else 3600 * h + 60 * m) := by
  have a := isDg_dg (h / 10) (by omega) (by omega)
  have b := isDg_dg (h % 10) (by omega) (by omega)
  have c := isDg_dg (m / 10) (by omega) (by omega)
  have d := isDg_dg (m % 10) (by omega) (by omega)
  have ht := digP_two h (by omega) (by omega)
  have mt := digP_two m (by omega) (by omega)
  have l1 : ((sg :: (two h ++ (colon ++ two m))).drop 1).take 2 = two h := by unfold two; rfl
  have l2 : (sg :: (two h ++ (colon ++ two m))).drop ((sg :: (two h ++ (colon ++ two m))).length - 2) = two m := by
    rcases hc with rfl | rfl <;> (unfold two; rfl)
  unfold offP
  rw [l1, l2, ht, mt, if_pos, if_pos (by omega)]
  · simp
  · rcases hsg with rfl | rfl
    · left; rcases hc with rfl | rfl <;> (unfold two; simp [likeP, a, b, c, d])
    · right; rcases hc with rfl | rfl <;> (unfold two; simp [likeP, a, b, c, d])
end Go.Proofs.YtocmppafmaehcaaDoor
