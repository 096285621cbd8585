/-
  Values of JSON, plain: how much a value holds; what is right, kind by kind. No conditions.
-/
import Derived.Test.YtchgelfomnbpaaaDoorZ22
namespace Go.Proofs.YtchgelfomnbpaaaDoor
open Go.Lib

def nsW : List Bt → Nat
  | [] => 0
  | x :: r => x.length + 1 + nsW r
mutual
def wJ : JV → Nat
  | .mk _ t ns l => 1 + t.length + nsW ns + wsJ l
def wsJ : List JV → Nat
  | [] => 0
  | v :: l => wJ v + wsJ l
end
theorem nsW_len : ∀ ns : List Bt, ns.length ≤ nsW ns
  | [] => by simp
  | x :: r => by have := nsW_len r; rw [nsW, List.length_cons]; omega
theorem nsW_at : ∀ (ns : List Bt) (j : Nat) (h : j < ns.length), ns[j].length < nsW ns
  | x :: r, 0, _ => by rw [nsW]; simp only [List.getElem_cons_zero]; omega
  | x :: r, j + 1, h => by
    have := nsW_at r j (by simpa using h)
    rw [nsW]
    simp only [List.getElem_cons_succ]
    omega
theorem wJ_pos : ∀ v : JV, 1 ≤ wJ v
  | .mk _ _ _ _ => by rw [wJ]; omega
theorem wsJ_len : ∀ l : List JV, l.length ≤ wsJ l
  | [] => by simp
  | v :: l => by have := wsJ_len l; have := wJ_pos v; rw [wsJ, List.length_cons]; omega
theorem wsJ_at : ∀ (l : List JV) (j : Nat) (h : j < l.length), wJ l[j] ≤ wsJ l
  | v :: l, 0, _ => by rw [wsJ]; simp only [List.getElem_cons_zero]; omega
  | v :: l, j + 1, h => by
    have := wsJ_at l j (by simpa using h)
    rw [wsJ]
    simp only [List.getElem_cons_succ]
    omega
theorem num_form (t : Bt) : (numF t == some []) = decide (t ≠ [] ∧ numLen t = t.length) := by
  obtain ⟨h1, h2⟩ := num_two t
  by_cases h0 : numLen t = 0
  · have hr : ¬ (t ≠ [] ∧ numLen t = t.length) := fun ⟨a, b⟩ => by
      rw [h0] at b
      exact a (List.length_eq_zero_iff.1 b.symm)
    rw [decide_eq_false hr]
    rcases h2 h0 with e | ⟨c, r, e, _⟩ <;> (rw [e]; rfl)
  · rw [h1 h0]
    by_cases h : numLen t = t.length
    · have hne : t ≠ [] := fun e => h0 (by rw [e]; rfl)
      rw [decide_eq_true ⟨hne, h⟩, h, List.drop_length]
      rfl
    · rw [decide_eq_false (fun x => h x.2)]
      have := numLen_le t
      have hd : t.drop (numLen t) ≠ [] := fun e => by
        have := congrArg List.length e
        rw [List.length_drop, List.length_nil] at this
        omega
      cases hq : t.drop (numLen t) with
      | nil => exact absurd hq hd
      | cons c r => rfl
def singleB (ns : List Bt) (l : List JV) : Bool := decide (ns.length = 0) && decide (l.length = 0)
def areB (d : Nat) (l : List JV) : Bool := decide (d ≠ 24) && rightsJ (d + 1) l
theorem single_yes {ns : List Bt} {l : List JV} (h : singleB ns l = true) : ns = [] ∧ l = [] := by
  unfold singleB at h
  simp at h
  exact h
theorem single_no {ns : List Bt} {l : List JV} (h : singleB ns l = false) : 0 < ns.length ∨ 0 < l.length := by
  unfold singleB at h
  simp only [Bool.and_eq_false_iff, decide_eq_false_iff_not] at h
  omega
theorem right_low {d : Nat} {k : Int} {t : Bt} {ns : List Bt} {l : List JV} (h0 : 0 ≤ k) (h5 : k < 5) : rightJ d (.mk k t ns l) = ((if k = 3 then decide (t ≠ [] ∧ numLen t = t.length) else if k = 4 then validD t else decide (t = [])) && singleB ns l) := by
  rw [rightJ, if_neg (by omega)]
  cases hs : singleB ns l with
  | false =>
    have := single_no hs
    rw [if_pos (by rcases this with h | h; exact .inr (.inl ⟨by omega, h⟩); exact .inl ⟨h5, h⟩), Bool.and_false]
  | true =>
    obtain ⟨rfl, rfl⟩ := single_yes hs
    rw [if_neg (by simp <;> omega), Bool.and_true]
    by_cases h3 : k = 3
    · rw [if_pos h3, if_pos h3]
    · rw [if_neg h3, if_neg h3]
      by_cases h4 : k = 4
      · rw [if_pos h4, if_pos h4]
      · rw [if_neg h4, if_neg h4]
        by_cases ht : t = []
        · rw [if_neg (by simp [ht] <;> omega), decide_eq_true ht]
          simp [rightsJ]
        · rw [if_pos (.inl ht), decide_eq_false ht]
theorem right_five {d : Nat} {t : Bt} {ns : List Bt} {l : List JV} : rightJ d (.mk 5 t ns l) = (decide (t = []) && decide (ns.length = 0) && areB d l) := by
  rw [rightJ, if_neg (by omega)]
  by_cases hn : ns.length = 0
  · rw [if_neg (by omega), if_neg (by decide), if_neg (by decide), decide_eq_true hn]
    unfold areB
    by_cases ht : t = []
    · rw [decide_eq_true ht]
      by_cases hd : d = 24
      · rw [if_pos (.inr ⟨by decide, hd⟩)]
        simp [hd]
      · rw [if_neg (by simp [ht, hd])]
        simp [hd]
    · rw [if_pos (.inl ht)]
      simp [ht]
  · rw [if_pos (.inr (.inl ⟨by decide, by omega⟩))]
    simp [hn]
theorem right_six {d : Nat} {t : Bt} {ns : List Bt} {l : List JV} : rightJ d (.mk 6 t ns l) = (decide (t = []) && decide (ns.length = l.length) && ns.all validD && areB d l) := by
  rw [rightJ, if_neg (by omega)]
  by_cases hn : ns.length = l.length
  · rw [if_neg (by omega), if_neg (by decide), if_neg (by decide), decide_eq_true hn]
    unfold areB
    by_cases ht : t = []
    · rw [decide_eq_true ht]
      by_cases hd : d = 24
      · rw [if_pos (.inr ⟨by decide, hd⟩)]
        simp [hd]
      · rw [if_neg (by simp [ht, hd])]
        simp [hd]
    · rw [if_pos (.inl ht)]
      simp [ht]
  · rw [if_pos (.inr (.inr ⟨by decide, hn⟩))]
    simp [hn]
theorem right_else {d : Nat} {k : Int} {t : Bt} {ns : List Bt} {l : List JV} (h : k < 0 ∨ 6 < k) : rightJ d (.mk k t ns l) = false := by rw [rightJ, if_pos h]
theorem rights_take : ∀ (l : List JV) (d j : Nat) (h : j < l.length), rightsJ d (l.take (j + 1)) = (rightsJ d (l.take j) && rightJ d l[j])
  | v :: l, d, 0, _ => by simp [rightsJ]
  | v :: l, d, j + 1, h => by
    have := rights_take l d j (by simpa using h)
    rw [List.take_succ_cons, List.take_succ_cons, rightsJ, rightsJ, this]
    simp only [List.getElem_cons_succ, Bool.and_assoc]
theorem rights_some {l : List JV} {d j : Nat} (h : j < l.length) (hr : rightJ d l[j] = false) : rightsJ d l = false := by
  induction l generalizing j with
  | nil => exact absurd h (Nat.not_lt_zero _)
  | cons v l ih =>
    rw [rightsJ]
    cases j with
    | zero => rw [show rightJ d v = false from hr]; rfl
    | succ j => rw [ih (j := j) (by simpa using h) (by simpa using hr), Bool.and_false]
end Go.Proofs.YtchgelfomnbpaaaDoor
