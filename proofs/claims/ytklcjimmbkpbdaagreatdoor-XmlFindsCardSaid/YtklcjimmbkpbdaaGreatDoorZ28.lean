/-
  Documents of XML, plain: one part of an element's content, in the program's order. No conditions.
-/
import Derived.Test.YtklcjimmbkpbdaaGreatDoorZ26
namespace Go.Proofs.YtklcjimmbkpbdaaGreatDoor
open Go.Lib

/-- One part of a content: what is left, the kids, the text behind them. -/
def partX (d : Nat) (sc : XS) (s : Bt) (ks : List XV) (t : Bt) : Except Int (Bt × List XV × Bt) :=
  match wordL [60, 33, 45, 45] s with
  | some r => (match remL r with
    | none => .error 70
    | some r' => .ok (r', ks, t))
  | none => match wordL [60, 63] s with
    | some r => (match insL r with
      | none => .error 70
      | some r' => .ok (r', ks, t))
    | none => match wordL cdataW s with
      | some r => (match toL cdendW r with
        | none => .error 70
        | some (a, r') => .ok (r', ks, t ++ linesL a))
      | none => match wordL [60] s with
        | some r => (match elemX d sc r with
          | .error e => .error e
          | .ok (v, r') => .ok (r', allX ks t ++ [v], []))
        | none => match textL s with
          | none => .error 70
          | some (x, r) => .ok (r, ks, t ++ x)
theorem word_pre {w s r : Bt} (h : wordL w s = some r) : w.isPrefixOf s = true := by
  unfold wordL at h
  split at h
  · assumption
  · cases h
theorem word_excl {w w' s r : Bt} (h : wordL w s = some r) (h1 : w.isPrefixOf w' = false) (h2 : w'.isPrefixOf w = false) : wordL w' s = none := by
  cases h' : wordL w' s with
  | none => rfl
  | some x =>
    exfalso
    have a := List.isPrefixOf_iff_prefix.1 (word_pre h)
    have b := List.isPrefixOf_iff_prefix.1 (word_pre h')
    rcases List.prefix_or_prefix_of_prefix a b with c | c
    · rw [List.isPrefixOf_iff_prefix.2 c] at h1; cases h1
    · rw [List.isPrefixOf_iff_prefix.2 c] at h2; cases h2
theorem kids_part {d : Nat} {sc : XS} {s : Bt} {ks : List XV} {t : Bt} (h : wordL [60, 47] s = none) : kidsX d sc s ks t = match partX d sc s ks t with
    | .error e => .error e
    | .ok (r, ks', t') => kidsX d sc r ks' t' := by
  rw [kidsX_eq, h]
  simp only
  unfold partX asideL
  cases h1 : wordL [60, 33, 45, 45] s with
  | some r =>
    simp only [word_excl h1 (w' := cdataW) (by decide) (by decide)]
    cases remL r <;> rfl
  | none =>
    simp only
    cases h2 : wordL [60, 63] s with
    | some r =>
      simp only [word_excl h2 (w' := cdataW) (by decide) (by decide)]
      cases insL r <;> rfl
    | none =>
      simp only
      cases h3 : wordL cdataW s with
      | some r =>
        simp only
        cases toL cdendW r with
        | none => rfl
        | some x => rfl
      | none =>
        simp only
        cases h4 : wordL [60] s with
        | some r =>
          simp only
          cases elemX d sc r with
          | error e => rfl
          | ok x => rfl
        | none =>
          simp only
          cases textL s with
          | none => rfl
          | some x => rfl
theorem allX_len (ks : List XV) (t : Bt) : 2 * (allX ks t).length ≤ 2 * ks.length + t.length + 1 ∧ (t = [] → (allX ks t).length = ks.length) ∧ (allX ks t).length ≤ ks.length + 1 := by
  unfold allX
  split
  · rename_i h; exact ⟨by omega, fun _ => rfl, by omega⟩
  · rename_i h
    have : 0 < t.length := List.length_pos_iff.2 h
    rw [List.length_append, List.length_singleton]
    exact ⟨by omega, fun e => absurd e h, by omega⟩
/-- A part takes something; what is read is no longer than what is taken. -/
theorem part_pot {d : Nat} {sc : XS} {s r : Bt} {ks ks' : List XV} {t t' : Bt} (h : partX d sc s ks t = .ok (r, ks', t')) : r.length < s.length ∧ 2 * ks'.length + t'.length + 2 * r.length ≤ 2 * ks.length + t.length + 2 * s.length := by
  unfold partX at h
  cases h1 : wordL [60, 33, 45, 45] s with
  | some x =>
    simp only [h1] at h
    have l1 := word_len h1
    simp only [List.length_cons, List.length_nil] at l1
    cases h2 : remL x with
    | none => rw [h2] at h; cases h
    | some y =>
      rw [h2] at h
      have l2 := rem_len h2
      injection h with h
      injection h with e1 h
      injection h with e2 e3
      subst e1; subst e2; subst e3
      omega
  | none =>
    simp only [h1] at h
    cases h3 : wordL [60, 63] s with
    | some x =>
      simp only [h3] at h
      have l1 := word_len h3
      simp only [List.length_cons, List.length_nil] at l1
      cases h2 : insL x with
      | none => rw [h2] at h; cases h
      | some y =>
        rw [h2] at h
        have l2 := ins_len h2
        injection h with h
        injection h with e1 h
        injection h with e2 e3
        subst e1; subst e2; subst e3
        omega
    | none =>
      simp only [h3] at h
      cases h4 : wordL cdataW s with
      | some x =>
        simp only [h4] at h
        have l1 := word_len h4
        simp only [cdataW, List.length_cons, List.length_nil] at l1
        cases h2 : toL cdendW x with
        | none => rw [h2] at h; cases h
        | some y =>
          obtain ⟨a, b⟩ := y
          rw [h2] at h
          have l2 := to_len h2
          have l3 := lines_le a
          injection h with h
          injection h with e1 h
          injection h with e2 e3
          subst e1; subst e2; subst e3
          rw [List.length_append]
          omega
      | none =>
        simp only [h4] at h
        cases h5 : wordL [60] s with
        | some x =>
          simp only [h5] at h
          have l1 := word_len h5
          simp only [List.length_cons, List.length_nil] at l1
          cases h2 : elemX d sc x with
          | error e => rw [h2] at h; cases h
          | ok y =>
            obtain ⟨v, b⟩ := y
            rw [h2] at h
            have l2 := elemX_len h2
            injection h with h
            injection h with e1 h
            injection h with e2 e3
            subst e1; subst e2; subst e3
            have l3 := allX_len ks t
            rw [List.length_append, List.length_singleton, List.length_nil]
            omega
        | none =>
          simp only [h5] at h
          cases h2 : textL s with
          | none => rw [h2] at h; cases h
          | some y =>
            obtain ⟨x, b⟩ := y
            rw [h2] at h
            have l2 := text_len h5 h2
            have l3 := text_parts h2
            injection h with h
            injection h with e1 h
            injection h with e2 e3
            subst e1; subst e2; subst e3
            rw [List.length_append]
            omega
/-- What an element's start is told by. -/
theorem start_scope {sc sc' : XS} {nm : XN} {ms : List XM} {v : XV} (h : startX sc nm ms = some (v, sc')) : sc' = sc ++ declsX ms ∧ v.kids = [] ∧ v.text = [] := by
  unfold startX at h
  cases h1 : scopeX sc ms with
  | none => rw [h1] at h; cases h
  | some l =>
    simp only [h1] at h
    cases h2 : findX l nm.1 with
    | none => rw [h2] at h; cases h
    | some sp =>
      simp only [h2] at h
      cases h3 : mapX (attrX l) (othersX ms) with
      | none => rw [h3] at h; cases h
      | some r =>
        simp only [h3] at h
        split at h
        · injection h with h
          injection h with e1 e2
          subst e1; subst e2
          refine ⟨?_, rfl, rfl⟩
          unfold scopeX at h1
          split at h1
          · cases h1
          · injection h1 with h1; exact h1.symm
        · cases h
theorem decl_val {ms : List XM} {d : Bt × Bt} (h : d ∈ declsX ms) : ∃ m ∈ ms, d.2 = m.2 := by
  unfold declsX at h
  obtain ⟨m, hm, he⟩ := List.mem_filterMap.1 h
  cases hd : declX m with
  | none => rw [hd] at he; cases he
  | some p =>
    rw [hd] at he
    injection he with he
    exact ⟨m, hm, by rw [← he]⟩
end Go.Proofs.YtklcjimmbkpbdaaGreatDoor
