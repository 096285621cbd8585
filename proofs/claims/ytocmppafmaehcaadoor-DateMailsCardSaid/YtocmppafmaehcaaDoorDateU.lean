/-
  Plain facts on the numbers that the reader's two forms answer. No conditions.
-/
import Derived.Test.YtocmppafmaehcaaDoorDC
import Derived.Test.YtocmppafmaehcaaDoorDateT
namespace Go.Proofs.YtocmppafmaehcaaDoor

theorem offF_bd (c l : List UInt8) : -1000000 ≤ (offF c l).1 ∧ (offF c l).1 ≤ 1000000 := by
  obtain ⟨⟨g, l1, o1⟩, f1⟩ : ∃ f, oneF [[43], [45]] l = f := ⟨_, rfl⟩
  obtain ⟨⟨h, l2, o2⟩, f2⟩ : ∃ f, twoF 0 23 l1 = f := ⟨_, rfl⟩
  obtain ⟨⟨z, l3, o3⟩, f3⟩ : ∃ f, oneF [c] l2 = f := ⟨_, rfl⟩
  obtain ⟨⟨m, l4, o4⟩, f4⟩ : ∃ f, twoF 0 59 l3 = f := ⟨_, rfl⟩
  have b2 := twoF_bd 0 23 l1
  rw [f2] at b2
  have b4 := twoF_bd 0 59 l3
  rw [f4] at b4
  have h0 : 0 ≤ h := b2.1
  have h1 : h ≤ 99 := b2.2
  have m0 : 0 ≤ m := b4.1
  have m1 : m ≤ 99 := b4.2
  have HF : (offF c l).1 = (if g = 1 then -1 else 1) * (h * 3600 + m * 60) := by
    unfold offF
    simp only [f1, f2, f3, f4]
  rw [HF]
  split <;> omega
theorem zonF_bd (l : List UInt8) : -1000000 ≤ (zonF l).1 ∧ (zonF l).1 ≤ 1000000 := by
  unfold zonF
  split
  · (constructor <;> simp)
  · exact offF_bd _ _
theorem mzF_bd (l : List UInt8) : -1000000 ≤ (mzF l).1 ∧ (mzF l).1 ≤ 1000000 := by
  unfold mzF
  repeat' split
  all_goals first
    | exact offF_bd _ _
    | (constructor <;> simp)
theorem oneF_bd (ws : List (List UInt8)) (l : List UInt8) : -1 ≤ (oneF ws l).1 ∧ (oneF ws l).1 ≤ ws.length := by
  have h := tk_neg ws l
  cases hk : tkB ws l with
  | false =>
    have := (h.2 hk).1
    show -1 ≤ tkI ws l ∧ tkI ws l ≤ ws.length
    omega
  | true =>
    have e : oneF ws l = (tkI ws l, tkL ws l, true) := by unfold oneF; rw [hk]
    obtain ⟨k, h1, h2, _⟩ := oneF_inv e
    show -1 ≤ tkI ws l ∧ tkI ws l ≤ ws.length
    omega
theorem secF_bd (l : List UInt8) : 0 ≤ (secF l).1 ∧ (secF l).1 ≤ 99 := by
  unfold secF
  split
  · exact twoF_bd 0 60 _
  · (constructor <;> simp)
theorem twoF_ok {lo hi n : Int} {l r : List UInt8} (h : twoF lo hi l = (n, r, true)) : lo ≤ n ∧ n ≤ hi := by
  obtain ⟨x, _, _, h3, h4, h5⟩ := twoF_inv h
  omega
theorem yearF_ok {l r : List UInt8} {y : Int} (h : yearF l = (y, r, true)) : y ≤ 9999 := by
  obtain ⟨⟨⟨n, k⟩, l1, o⟩, f⟩ : ∃ f, digF 2 4 l = f := ⟨_, rfl⟩
  unfold yearF at h
  rw [f] at h
  change (if k = 3 then (n, l1, false) else if k = 2 then (if n < 50 then (n + 2000, l1, o) else (n + 1900, l1, o)) else (n, l1, o)) = (y, r, true) at h
  have ho : o = true := by
    repeat' split at h
    all_goals simp at h
    all_goals exact h.2.2
  subst ho
  obtain ⟨j, x, hx, h1, h2, _, h4, h5⟩ := digF_inv f
  have hb := valG_bd j x hx.1 hx.2
  by_cases k3 : k = 3
  · rw [if_pos k3] at h; simp at h
  rw [if_neg k3] at h
  by_cases k2 : k = 2
  · rw [if_pos k2] at h
    have hj : j = 2 := by omega
    subst hj
    have : (10 : Int) ^ 2 = 100 := by decide
    split at h
    · simp at h; omega
    · simp at h; omega
  · rw [if_neg k2] at h
    simp at h
    have hj : (10 : Int) ^ j ≤ 10 ^ 4 := by
      have := Nat.pow_le_pow_right (n := 10) (by omega) h2
      exact_mod_cast this
    have : (10 : Int) ^ 4 = 10000 := by decide
    omega
theorem yearF_bd' (l : List UInt8) : 0 ≤ (yearF l).1 ∧ (yearF l).1 ≤ 12000 := by
  have h := digF_bd 2 4 l
  unfold yearF
  generalize digF 2 4 l = f at *
  obtain ⟨⟨y, k⟩, l1, o⟩ := f
  have h0 : 0 ≤ y := h.1
  have h1 : y ≤ 9999 := h.2.1
  show 0 ≤ (if k = 3 then (y, l1, false) else if k = 2 then (if y < 50 then (y + 2000, l1, o) else (y + 1900, l1, o)) else (y, l1, o)).1 ∧ (if k = 3 then (y, l1, false) else if k = 2 then (if y < 50 then (y + 2000, l1, o) else (y + 1900, l1, o)) else (y, l1, o)).1 ≤ 12000
  repeat' split
  all_goals (constructor <;> simp <;> omega)
/-- The numbers of a moment are small, and where all was as it must be the month is one and the year has four digits. -/
def MomBd (f : Mom × List UInt8 × Bool) : Prop :=
  (0 ≤ f.1.y ∧ f.1.y ≤ 20000) ∧ (f.2.2 = true → 1 ≤ f.1.mo ∧ f.1.mo ≤ 12 ∧ f.1.y ≤ 9999) ∧ (0 ≤ f.1.d ∧ f.1.d ≤ 100) ∧ (0 ≤ f.1.h ∧ f.1.h ≤ 100) ∧ (0 ≤ f.1.mi ∧ f.1.mi ≤ 100) ∧ (0 ≤ f.1.s ∧ f.1.s ≤ 100) ∧ (-1000000 ≤ f.1.a ∧ f.1.a ≤ 1000000)
theorem atomF_bd (l0 : List UInt8) : MomBd (atomF l0) := by
  obtain ⟨⟨⟨y, z1⟩, l1, o1⟩, f1⟩ : ∃ f, digF 4 4 l0 = f := ⟨_, rfl⟩
  obtain ⟨⟨z2, l2, o2⟩, f2⟩ : ∃ f, oneF [[45]] l1 = f := ⟨_, rfl⟩
  obtain ⟨⟨mo, l3, o3⟩, f3⟩ : ∃ f, twoF 1 12 l2 = f := ⟨_, rfl⟩
  obtain ⟨⟨z4, l4, o4⟩, f4⟩ : ∃ f, oneF [[45]] l3 = f := ⟨_, rfl⟩
  obtain ⟨⟨d, l5, o5⟩, f5⟩ : ∃ f, twoF 1 31 l4 = f := ⟨_, rfl⟩
  obtain ⟨⟨z6, l6, o6⟩, f6⟩ : ∃ f, oneF [[84], [116], [32]] l5 = f := ⟨_, rfl⟩
  obtain ⟨⟨hh, l7, o7⟩, f7⟩ : ∃ f, twoF 0 23 l6 = f := ⟨_, rfl⟩
  obtain ⟨⟨z8, l8, o8⟩, f8⟩ : ∃ f, oneF [[58]] l7 = f := ⟨_, rfl⟩
  obtain ⟨⟨mi, l9, o9⟩, f9⟩ : ∃ f, twoF 0 59 l8 = f := ⟨_, rfl⟩
  obtain ⟨⟨z10, l10, o10⟩, f10⟩ : ∃ f, oneF [[58]] l9 = f := ⟨_, rfl⟩
  obtain ⟨⟨sc, l11, o11⟩, f11⟩ : ∃ f, twoF 0 60 l10 = f := ⟨_, rfl⟩
  obtain ⟨⟨l12, o12⟩, f12⟩ : ∃ f, skipF l11 = f := ⟨_, rfl⟩
  obtain ⟨⟨ah, l13, o13⟩, f13⟩ : ∃ f, zonF l12 = f := ⟨_, rfl⟩
  have HF : atomF l0 = (⟨y, mo, d, hh, mi, sc, ah⟩, l13, o1 && (o2 && (o3 && (o4 && (o5 && (o6 && (o7 && (o8 && (o9 && (o10 && (o11 && (o12 && o13)))))))))))) := by
    unfold atomF
    simp only [f1, f2, f3, f4, f5, f6, f7, f8, f9, f10, f11, f12, f13]
  have b1 := digF_bd 4 4 l0
  rw [f1] at b1
  have b1a : 0 ≤ y := b1.1
  have b1b : y ≤ 9999 := b1.2.1
  have b5 := twoF_bd 1 31 l4
  rw [f5] at b5
  have b5a : 0 ≤ d := b5.1
  have b5b : d ≤ 99 := b5.2
  have b7 := twoF_bd 0 23 l6
  rw [f7] at b7
  have b7a : 0 ≤ hh := b7.1
  have b7b : hh ≤ 99 := b7.2
  have b9 := twoF_bd 0 59 l8
  rw [f9] at b9
  have b9a : 0 ≤ mi := b9.1
  have b9b : mi ≤ 99 := b9.2
  have b11 := twoF_bd 0 60 l10
  rw [f11] at b11
  have b11a : 0 ≤ sc := b11.1
  have b11b : sc ≤ 99 := b11.2
  have b13 := zonF_bd l12
  rw [f13] at b13
  have b13a : -1000000 ≤ ah := b13.1
  have b13b : ah ≤ 1000000 := b13.2
  rw [HF]
  refine ⟨⟨b1a, by show y ≤ 20000; omega⟩, fun h => ?_, ⟨b5a, by show d ≤ 100; omega⟩, ⟨b7a, by show hh ≤ 100; omega⟩, ⟨b9a, by show mi ≤ 100; omega⟩, ⟨b11a, by show sc ≤ 100; omega⟩, b13a, b13b⟩
  simp only [Bool.and_eq_true] at h
  obtain ⟨_, _, h3, _⟩ := h
  subst h3
  have := twoF_ok f3
  exact ⟨this.1, this.2, b1b⟩
theorem mailF_bd (l0 : List UInt8) : MomBd (mailF l0) := by
  obtain ⟨⟨l1, o1⟩, f1⟩ : ∃ f, headF l0 = f := ⟨_, rfl⟩
  obtain ⟨⟨⟨d, z2⟩, l2, o2⟩, f2⟩ : ∃ f, digF 1 2 l1 = f := ⟨_, rfl⟩
  obtain ⟨⟨z3, l3, o3⟩, f3⟩ : ∃ f, oneF [[32]] l2 = f := ⟨_, rfl⟩
  obtain ⟨⟨i, l4, o4⟩, f4⟩ : ∃ f, oneF monthsN l3 = f := ⟨_, rfl⟩
  obtain ⟨⟨z5, l5, o5⟩, f5⟩ : ∃ f, oneF [[32]] l4 = f := ⟨_, rfl⟩
  obtain ⟨⟨y, l6, o6⟩, f6⟩ : ∃ f, yearF l5 = f := ⟨_, rfl⟩
  obtain ⟨⟨z7, l7, o7⟩, f7⟩ : ∃ f, oneF [[32]] l6 = f := ⟨_, rfl⟩
  obtain ⟨⟨hh, l8, o8⟩, f8⟩ : ∃ f, twoF 0 23 l7 = f := ⟨_, rfl⟩
  obtain ⟨⟨z9, l9, o9⟩, f9⟩ : ∃ f, oneF [[58]] l8 = f := ⟨_, rfl⟩
  obtain ⟨⟨mi, l10, o10⟩, f10⟩ : ∃ f, twoF 0 59 l9 = f := ⟨_, rfl⟩
  obtain ⟨⟨sc, l11, o11⟩, f11⟩ : ∃ f, secF l10 = f := ⟨_, rfl⟩
  obtain ⟨⟨z12, l12, o12⟩, f12⟩ : ∃ f, oneF [[32]] l11 = f := ⟨_, rfl⟩
  obtain ⟨⟨ah, l13, o13⟩, f13⟩ : ∃ f, mzF l12 = f := ⟨_, rfl⟩
  have HF : mailF l0 = (⟨y, i + 1, d, hh, mi, sc, ah⟩, l13, o1 && (o2 && (decide (1 ≤ d) && (o3 && (o4 && (o5 && (o6 && (o7 && (o8 && (o9 && (o10 && (o11 && (o12 && o13))))))))))))) := by
    unfold mailF
    simp only [f1, f2, f3, f4, f5, f6, f7, f8, f9, f10, f11, f12, f13]
  have b6 := yearF_bd' l5
  rw [f6] at b6
  have b6a : 0 ≤ y := b6.1
  have b6b : y ≤ 12000 := b6.2
  have b2 := digF_bd 1 2 l1
  rw [f2] at b2
  have b2a : 0 ≤ d := b2.1
  have b2b : d ≤ 99 := b2.2.1
  have b4 := oneF_bd monthsN l3
  rw [f4] at b4
  have b8 := twoF_bd 0 23 l7
  rw [f8] at b8
  have b8a : 0 ≤ hh := b8.1
  have b8b : hh ≤ 99 := b8.2
  have b10 := twoF_bd 0 59 l9
  rw [f10] at b10
  have b10a : 0 ≤ mi := b10.1
  have b10b : mi ≤ 99 := b10.2
  have b11 := secF_bd l10
  rw [f11] at b11
  have b11a : 0 ≤ sc := b11.1
  have b11b : sc ≤ 99 := b11.2
  have b13 := mzF_bd l12
  rw [f13] at b13
  have b13a : -1000000 ≤ ah := b13.1
  have b13b : ah ≤ 1000000 := b13.2
  rw [HF]
  refine ⟨⟨b6a, by show y ≤ 20000; omega⟩, fun h => ?_, ⟨b2a, by show d ≤ 100; omega⟩, ⟨b8a, by show hh ≤ 100; omega⟩, ⟨b10a, by show mi ≤ 100; omega⟩, ⟨b11a, by show sc ≤ 100; omega⟩, b13a, b13b⟩
  simp only [Bool.and_eq_true] at h
  obtain ⟨_, _, _, _, h4, _, h6, _⟩ := h
  subst h4
  subst h6
  obtain ⟨k, hk, hk2, _⟩ := oneF_inv f4
  have hl : monthsN.length = 12 := rfl
  refine ⟨?_, ?_, yearF_ok f6⟩
  · show 1 ≤ i + 1; omega
  · show i + 1 ≤ 12; omega
end Go.Proofs.YtocmppafmaehcaaDoor
