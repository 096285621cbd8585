/-
  Plain facts on a reader that takes a date off the front of a text and keeps in a mark what isn't as it must be: it answers as the document's Atom and Mail. No conditions.
-/
import Derived.Test.YtocmppafmaehcaaDoorDateQ
namespace Go.Proofs.YtocmppafmaehcaaDoor

/-! The reader's steps: what is answered, what is left, whether it was as it must be. -/
def dgs (k : Nat) (l : List UInt8) : List UInt8 := (l.take k).takeWhile isDg
def digF (least most : Nat) (l : List UInt8) : (Int × Int) × List UInt8 × Bool :=
  ((valG (dgs most l), ((dgs most l).length : Int)), l.drop (dgs most l).length, decide (least ≤ (dgs most l).length))
def twoF (lo hi : Int) (l : List UInt8) : Int × List UInt8 × Bool :=
  (valG (dgs 2 l), l.drop (dgs 2 l).length, decide (2 ≤ (dgs 2 l).length) && (decide (lo ≤ valG (dgs 2 l)) && decide (valG (dgs 2 l) ≤ hi)))
def takeW : List (List UInt8) → List UInt8 → Option (Int × List UInt8)
  | [], _ => none
  | w :: ws, l => if w.isPrefixOf l = true then some (0, l.drop w.length) else (takeW ws l).map fun x => (x.1 + 1, x.2)
def tkI (ws : List (List UInt8)) (l : List UInt8) : Int := match takeW ws l with | some (i, _) => i | none => -1
def tkL (ws : List (List UInt8)) (l : List UInt8) : List UInt8 := match takeW ws l with | some (_, r) => r | none => l
def tkB (ws : List (List UInt8)) (l : List UInt8) : Bool := (takeW ws l).isSome
def oneF (ws : List (List UInt8)) (l : List UInt8) : Int × List UInt8 × Bool := (tkI ws l, tkL ws l, tkB ws l)
def offF (colon : List UInt8) (l : List UInt8) : Int × List UInt8 × Bool :=
  match oneF [[43], [45]] l with
  | (g, l1, o1) => match twoF 0 23 l1 with
    | (h, l2, o2) => match oneF [colon] l2 with
      | (_, l3, o3) => match twoF 0 59 l3 with
        | (m, l4, o4) => ((if g = 1 then -1 else 1) * (h * 3600 + m * 60), l4, o1 && (o2 && (o3 && o4)))
def skipF (l : List UInt8) : List UInt8 × Bool :=
  if tkB [[46]] l = true then ((tkL [[46]] l).dropWhile isDg, decide (((tkL [[46]] l).dropWhile isDg).length < (tkL [[46]] l).length)) else (l, true)
def zonF (l : List UInt8) : Int × List UInt8 × Bool := if tkB [[90], [122]] l = true then (0, tkL [[90], [122]] l, true) else offF [58] l

theorem tk_neg (ws : List (List UInt8)) (l : List UInt8) : (tkB ws l = true ↔ 0 ≤ tkI ws l) ∧ (tkB ws l = false → tkI ws l = -1 ∧ tkL ws l = l) := by
  have h : ∀ ws : List (List UInt8), ∀ x, takeW ws l = some x → 0 ≤ x.1 := by
    intro ws
    induction ws with
    | nil => intro x h; cases h
    | cons w ws ih =>
      intro x h
      unfold takeW at h
      split at h
      · cases h; exact Int.le_refl 0
      · rw [Option.map_eq_some_iff] at h
        obtain ⟨y, hy, rfl⟩ := h
        have := ih y hy
        show 0 ≤ y.1 + 1
        omega
  unfold tkB tkI tkL
  cases hx : takeW ws l with
  | none => simp
  | some x =>
    have := h ws x hx
    simp [this]

/-! Digits. -/
def Dg (n : Nat) (x : List UInt8) : Prop := x.length = n ∧ x.all isDg = true
theorem Dg.digP {n : Nat} {x : List UInt8} (h : Dg n x) : digP x = valG x := by unfold Go.Proofs.YtocmppafmaehcaaDoor.digP; rw [if_pos h.2]
theorem isDg_bd {c : UInt8} (h : isDg c = true) : 0 ≤ (c.toNat : Int) - 48 ∧ (c.toNat : Int) - 48 ≤ 9 := by
  unfold isDg at h
  rw [decide_eq_true_eq] at h
  omega
theorem dg1 {x : List UInt8} (h : Dg 1 x) : ∃ a, x = [a] ∧ isDg a = true ∧ valG x = (a.toNat : Int) - 48 := by
  obtain ⟨h1, h2⟩ := h
  match x, h1 with
  | [a], _ =>
    simp only [List.all_cons, List.all_nil, Bool.and_true] at h2
    exact ⟨a, rfl, h2, by simp [valG]⟩
theorem dg2 {x : List UInt8} (h : Dg 2 x) : ∃ a b, x = [a, b] ∧ isDg a = true ∧ isDg b = true ∧ valG x = 10 * ((a.toNat : Int) - 48) + ((b.toNat : Int) - 48) := by
  obtain ⟨h1, h2⟩ := h
  match x, h1 with
  | [a, b], _ =>
    simp only [List.all_cons, List.all_nil, Bool.and_true, Bool.and_eq_true] at h2
    exact ⟨a, b, rfl, h2.1, h2.2, by simp [valG]⟩
theorem dg4 {x : List UInt8} (h : Dg 4 x) : ∃ a b c d, x = [a, b, c, d] ∧ isDg a = true ∧ isDg b = true ∧ isDg c = true ∧ isDg d = true := by
  obtain ⟨h1, h2⟩ := h
  match x, h1 with
  | [a, b, c, d], _ =>
    simp only [List.all_cons, List.all_nil, Bool.and_true, Bool.and_eq_true] at h2
    exact ⟨a, b, c, d, rfl, h2.1, h2.2.1, h2.2.2.1, h2.2.2.2⟩
theorem valG_snoc (l : List UInt8) (c : UInt8) : valG (l ++ [c]) = 10 * valG l + ((c.toNat : Int) - 48) := by
  unfold valG
  rw [List.foldl_append]
  rfl
theorem valG_bd : ∀ (n : Nat) (l : List UInt8), l.length = n → l.all isDg = true → 0 ≤ valG l ∧ valG l ≤ 10 ^ n - 1
  | 0, l, h, _ => by
    match l, h with
    | [], _ => decide
  | n + 1, l, h, ha => by
    have hne : l ≠ [] := by rintro rfl; simp at h
    have e := List.dropLast_concat_getLast hne
    rw [← e, List.all_append, Bool.and_eq_true] at ha
    have ih := valG_bd n l.dropLast (by rw [List.length_dropLast]; omega) ha.1
    have hl := isDg_bd (c := l.getLast hne) (by simpa using ha.2)
    rw [← e, valG_snoc]
    have hp : (10 : Int) ^ (n + 1) = 10 ^ n * 10 := Int.pow_succ 10 n
    omega
theorem valG_le (l : List UInt8) (k : Nat) (hk : l.length ≤ k) (h : l.all isDg = true) : 0 ≤ valG l ∧ valG l ≤ 10 ^ k - 1 := by
  have := valG_bd l.length l rfl h
  have hp : (10 : Int) ^ l.length ≤ 10 ^ k := by
    have := Nat.pow_le_pow_right (n := 10) (by omega) hk
    exact_mod_cast this
  omega
theorem dgs_all (k : Nat) (l : List UInt8) : (dgs k l).all isDg = true := by
  unfold dgs
  exact List.all_takeWhile
theorem dgs_le (k : Nat) (l : List UInt8) : (dgs k l).length ≤ k ∧ (dgs k l).length ≤ l.length := by
  unfold dgs
  have := List.takeWhile_prefix isDg (l := l.take k) |>.length_le
  rw [List.length_take] at this
  omega
theorem dgs_app (k : Nat) (l : List UInt8) : l = dgs k l ++ l.drop (dgs k l).length := by
  have hp : dgs k l <+: l := (List.takeWhile_prefix isDg).trans (List.take_prefix k l)
  obtain ⟨t, ht⟩ := hp
  generalize dgs k l = x at *
  subst ht
  rw [List.drop_left]
theorem takeWhile_all : ∀ (x r : List UInt8), x.all isDg = true → (x ++ r).takeWhile isDg = x ++ r.takeWhile isDg
  | [], r, _ => rfl
  | a :: x, r, h => by
    rw [List.all_cons, Bool.and_eq_true] at h
    rw [List.cons_append, List.takeWhile_cons, if_pos h.1, takeWhile_all x r h.2]
    rfl
theorem dgs_full {n : Nat} {x : List UInt8} (r : List UInt8) (h : Dg n x) : dgs n (x ++ r) = x := by
  unfold dgs
  rw [← h.1, List.take_left]
  have := takeWhile_all x [] h.2
  simpa using this
/-- Fewer digits than may come, and something else behind them. -/
theorem dgs_part {n k : Nat} {x r : List UInt8} (h : Dg n x) (hk : n ≤ k) (hr : ∀ c t, r = c :: t → isDg c = false) : dgs k (x ++ r) = x := by
  unfold dgs
  rw [List.take_append, List.take_of_length_le (by rw [h.1]; exact hk), takeWhile_all x _ h.2]
  cases r with
  | nil => simp
  | cons c t =>
    have hc := hr c t rfl
    cases hm : k - x.length with
    | zero => simp
    | succ m => rw [List.take_succ_cons, List.takeWhile_cons, hc]; simp
theorem digF_full {n : Nat} {x : List UInt8} (r : List UInt8) (h : Dg n x) : digF n n (x ++ r) = ((valG x, (n : Int)), r, true) := by
  unfold digF
  rw [dgs_full r h, h.1, show (x ++ r).drop n = r by rw [← h.1, List.drop_left]]
  simp
theorem digF_part {n k least : Nat} {x r : List UInt8} (h : Dg n x) (hk : n ≤ k) (hl : least ≤ n) (hr : ∀ c t, r = c :: t → isDg c = false) : digF least k (x ++ r) = ((valG x, (n : Int)), r, true) := by
  unfold digF
  rw [dgs_part h hk hr, h.1, show (x ++ r).drop n = r by rw [← h.1, List.drop_left]]
  simp [hl]
theorem digF_inv {least most : Nat} {l r : List UInt8} {n m : Int} (h : digF least most l = ((n, m), r, true)) : ∃ k x, Dg k x ∧ least ≤ k ∧ k ≤ most ∧ l = x ++ r ∧ n = valG x ∧ m = k := by
  unfold digF at h
  simp only [Prod.mk.injEq, decide_eq_true_eq] at h
  obtain ⟨⟨h1, h2⟩, h3, h4⟩ := h
  exact ⟨_, dgs most l, ⟨rfl, dgs_all _ _⟩, h4, (dgs_le most l).1, by rw [← h3]; exact dgs_app most l, h1.symm, h2.symm⟩
theorem twoF_full {x : List UInt8} (lo hi : Int) (r : List UInt8) (h : Dg 2 x) (hv : lo ≤ valG x ∧ valG x ≤ hi) : twoF lo hi (x ++ r) = (valG x, r, true) := by
  unfold twoF
  rw [dgs_full r h, h.1, show (x ++ r).drop 2 = r by rw [← h.1, List.drop_left]]
  simp [hv.1, hv.2]
theorem twoF_inv {lo hi n : Int} {l r : List UInt8} (h : twoF lo hi l = (n, r, true)) : ∃ x, Dg 2 x ∧ l = x ++ r ∧ n = valG x ∧ lo ≤ valG x ∧ valG x ≤ hi := by
  unfold twoF at h
  simp only [Prod.mk.injEq, Bool.and_eq_true, decide_eq_true_eq] at h
  obtain ⟨h1, h3, h4, h5, h6⟩ := h
  have := (dgs_le 2 l).1
  exact ⟨dgs 2 l, ⟨by omega, dgs_all _ _⟩, by rw [← h3]; exact dgs_app 2 l, h1.symm, h5, h6⟩

/-! Words. -/
theorem isPre (w l : List UInt8) : w.isPrefixOf l = true ↔ ∃ r, l = w ++ r := by
  rw [List.isPrefixOf_iff_prefix]
  exact ⟨fun ⟨r, h⟩ => ⟨r, h.symm⟩, fun ⟨r, h⟩ => ⟨r, h.symm⟩⟩
theorem takeW_inv {l r : List UInt8} {i : Int} : ∀ {ws : List (List UInt8)}, takeW ws l = some (i, r) → ∃ k : Nat, i = k ∧ k < ws.length ∧ l = ws.getD k [] ++ r
  | [], h => by cases h
  | w :: ws, h => by
    unfold takeW at h
    split at h
    · rename_i hp
      obtain ⟨t, rfl⟩ := (isPre w l).1 hp
      rw [List.drop_left] at h
      cases h
      exact ⟨0, rfl, by simp, rfl⟩
    · rw [Option.map_eq_some_iff] at h
      obtain ⟨⟨j, t⟩, hy, he⟩ := h
      cases he
      obtain ⟨k, rfl, hk, hl⟩ := takeW_inv hy
      exact ⟨k + 1, by simp, by simp; omega, by simpa using hl⟩
theorem oneF_inv {ws : List (List UInt8)} {l r : List UInt8} {i : Int} (h : oneF ws l = (i, r, true)) : ∃ k : Nat, i = k ∧ k < ws.length ∧ l = ws.getD k [] ++ r := by
  unfold oneF tkI tkL tkB at h
  cases hx : takeW ws l with
  | none => rw [hx] at h; simp at h
  | some x =>
    rw [hx] at h
    simp only [Prod.mk.injEq, Option.isSome_some, and_true] at h
    obtain ⟨x1, x2⟩ := x
    obtain ⟨rfl, rfl⟩ := h
    exact takeW_inv hx
theorem oneF_one (w r : List UInt8) : oneF [w] (w ++ r) = (0, r, true) := by
  have h : takeW [w] (w ++ r) = some (0, r) := by
    unfold takeW
    rw [if_pos ((isPre w _).2 ⟨r, rfl⟩), List.drop_left]
  unfold oneF tkI tkL tkB
  rw [h]
  rfl
theorem oneF_c (c : UInt8) (r : List UInt8) : oneF [[c]] (c :: r) = (0, r, true) := oneF_one [c] r
theorem one_inv {c : UInt8} {l r : List UInt8} {i : Int} (h : oneF [[c]] l = (i, r, true)) : l = c :: r := by
  obtain ⟨k, _, hk, hl⟩ := oneF_inv h
  match k, hk with
  | 0, _ => exact hl
end Go.Proofs.YtocmppafmaehcaaDoor
