/-
  How many nodes and attributes a document holds: no more than it has bytes. No conditions.
-/
import Derived.Test.YtklcjimmbkpbdaaGreatDoorZ32
import Derived.Test.YtklcjimmbkpbdaaGreatDoorZ28
namespace Go.Proofs.YtklcjimmbkpbdaaGreatDoor
open Go.Lib

mutual
/-- How many nodes and attributes. -/
def cX : XV → Nat
  | .mk _ _ al ks _ => 1 + al.length + cXs ks
def cXs : List XV → Nat
  | [] => 0
  | v :: l => cX v + cXs l
end
theorem cX_eq (v : XV) : cX v = 1 + v.attrs.length + cXs v.kids := by
  obtain ⟨sp, nm, al, ks, tx⟩ := v
  rw [cX]
  rfl
theorem cXs_append (a b : List XV) : cXs (a ++ b) = cXs a + cXs b := by
  induction a with
  | nil => rw [List.nil_append, cXs]; omega
  | cons v a ih => rw [List.cons_append, cXs, cXs, ih]; omega
theorem cXs_mem : ∀ {l : List XV} {v : XV}, v ∈ l → cX v ≤ cXs l
  | b :: l, v, h => by
    rw [cXs]
    rcases List.mem_cons.1 h with e | h
    · subst e; omega
    · have := cXs_mem h
      omega
theorem cXs_len (l : List XV) : l.length ≤ cXs l := by
  induction l with
  | nil => exact Nat.zero_le _
  | cons v l ih =>
    rw [cXs, List.length_cons, cX_eq]
    omega
mutual
theorem cX_wX : ∀ v : XV, cX v ≤ wX v
  | .mk sp nm al ks tx => by
    have h1 := cXs_wXs ks
    have h2 := wX_eq (.mk sp nm al ks tx)
    have h3 := wA_len al
    simp only [XV.space, XV.name, XV.text, XV.attrs, XV.kids] at h2
    rw [cX]
    omega
theorem cXs_wXs : ∀ l : List XV, cXs l ≤ wXs l
  | [] => Nat.le_refl _
  | v :: l => by
    have h1 := cX_wX v
    have h2 := cXs_wXs l
    rw [cXs, wXs]
    omega
end
theorem allX_cX (ks : List XV) (t : Bt) : 2 * cXs (allX ks t) ≤ 2 * cXs ks + t.length + 2 ∧ (t = [] → cXs (allX ks t) = cXs ks) := by
  unfold allX
  by_cases h : t = []
  · rw [if_pos h]
    exact ⟨by omega, fun _ => rfl⟩
  · rw [if_neg h, cXs_append, cXs, cXs]
    have : cX (textX t) = 1 := by rw [cX_eq]; rfl
    exact ⟨by omega, fun e => absurd e h⟩
theorem mapX_len9 {α β : Type} {f : α → Option β} : ∀ {l : List α} {r : List β}, mapX f l = some r → r.length = l.length
  | [], r, h => by injection h with h; rw [← h]; rfl
  | a :: l, r, h => by
    rw [mapX] at h
    cases ha : f a with
    | none => rw [ha] at h; cases h
    | some b =>
      rw [ha] at h
      simp only at h
      cases hl : mapX f l with
      | none => rw [hl] at h; cases h
      | some q =>
        rw [hl] at h
        injection h with h
        rw [← h, List.length_cons, List.length_cons, mapX_len9 hl]
theorem start_cX {sc sc' : XS} {nm : XN} {ms : List XM} {v : XV} (h : startX sc nm ms = some (v, sc')) : cX v ≤ 1 + ms.length := by
  unfold startX at h
  cases h1 : scopeX sc ms with
  | none => rw [h1] at h; cases h
  | some s1 =>
    rw [h1] at h
    simp only at h
    cases h2 : findX s1 nm.1 with
    | none => rw [h2] at h; cases h
    | some sp =>
      rw [h2] at h
      simp only at h
      cases h3 : mapX (attrX s1) (othersX ms) with
      | none => rw [h3] at h; cases h
      | some l =>
        rw [h3] at h
        simp only at h
        split at h
        · injection h with h
          injection h with e1 _
          have hl := mapX_len9 h3
          have ho : (othersX ms).length ≤ ms.length := List.length_filter_le _ _
          rw [← e1, cX, cXs]
          omega
        · cases h
theorem withKids_cX (v : XV) (ks : List XV) (h : v.kids = []) : cX (v.withKids ks) = cX v + cXs ks := by
  obtain ⟨sp, nm, al, k0, tx⟩ := v
  have h' : k0 = [] := h
  subst h'
  show cX (.mk sp nm al ks tx) = _
  rw [cX, cX, cXs]
  omega
theorem kidsN_cX : ∀ (n : Nat), (∀ {d : Nat} {sc : XS} {s r : Bt} {v : XV}, elemN n d sc s = .ok (v, r) → cX v + r.length ≤ s.length) ∧ (∀ {d : Nat} {sc : XS} {s r : Bt} {ks l : List XV} {t : Bt}, kidsN n d sc s ks t = .ok (l, r) → 2 * cXs l + 2 * r.length ≤ 2 * cXs ks + t.length + 2 * s.length)
  | 0 => ⟨fun h => (by rw [elemN] at h; cases h), fun h => (by rw [kidsN] at h; cases h)⟩
  | n + 1 => by
    obtain ⟨ihE, ihK⟩ := kidsN_cX n
    constructor
    · intro d sc s r v h
      rw [elemN] at h
      cases h1 : markL s with
      | none => simp only [h1] at h; cases h
      | some x =>
        obtain ⟨nm, s1⟩ := x
        simp only [h1] at h
        have l1 := mark_len h1
        cases h2 : tagL s1 with
        | none => simp only [h2] at h; cases h
        | some y =>
          obtain ⟨ms, c, s2⟩ := y
          simp only [h2] at h
          have l2 := (tag_parts _ (Nat.le_refl _) h2).2
          cases h3 : startX sc nm ms with
          | none => simp only [h3] at h; cases h
          | some z =>
            obtain ⟨v0, sc'⟩ := z
            simp only [h3] at h
            have l5 := start_cX h3
            have l6 := (start_scope h3).2.1
            split at h
            · cases h
            · split at h
              · injection h with h
                injection h with e h
                subst h
                subst e
                omega
              · cases h4 : kidsN n (d + 1) sc' s2 [] [] with
                | error e => simp only [h4] at h; cases h
                | ok u =>
                  obtain ⟨ks, s3⟩ := u
                  simp only [h4] at h
                  have l3 := ihK h4
                  rw [cXs, List.length_nil] at l3
                  cases h5 : endX nm s3 with
                  | none => simp only [h5] at h; cases h
                  | some s4 =>
                    simp only [h5] at h
                    have l4 := end_len h5
                    injection h with h
                    injection h with e h
                    subst h
                    subst e
                    rw [withKids_cX _ _ l6]
                    omega
    · intro d sc s r ks l t h
      rw [kidsN] at h
      cases h1 : wordL [60, 47] s with
      | some x =>
        simp only [h1] at h
        have l1 := word_len h1
        simp only [List.length_cons, List.length_nil] at l1
        injection h with h
        injection h with e1 e2
        subst e1; subst e2
        have := (allX_cX ks t).1
        omega
      | none =>
        simp only [h1] at h
        cases h2 : wordL cdataW s with
        | some x =>
          simp only [h2] at h
          have l2 := word_len h2
          simp only [cdataW, List.length_cons, List.length_nil] at l2
          cases h3 : toL cdendW x with
          | none => simp only [h3] at h; cases h
          | some y =>
            obtain ⟨a, b⟩ := y
            simp only [h3] at h
            have l3 := to_len h3
            have l4 := lines_le a
            have l5 := ihK h
            rw [List.length_append] at l5
            omega
        | none =>
          simp only [h2] at h
          cases h3 : asideL s with
          | none => simp only [h3] at h; cases h
          | some o =>
            cases o with
            | some x =>
              simp only [h3] at h
              have l3 := aside_len h3
              have l5 := ihK h
              omega
            | none =>
              simp only [h3] at h
              cases h4 : wordL [60] s with
              | some x =>
                simp only [h4] at h
                have l4 := word_len h4
                simp only [List.length_cons, List.length_nil] at l4
                cases h5 : elemN n d sc x with
                | error e => simp only [h5] at h; cases h
                | ok y =>
                  obtain ⟨v, b⟩ := y
                  simp only [h5] at h
                  have l5 := ihE h5
                  have l6 := ihK h
                  have l7 := allX_cX ks t
                  rw [cXs_append, cXs, cXs, List.length_nil] at l6
                  omega
              | none =>
                simp only [h4] at h
                cases h5 : textL s with
                | none => simp only [h5] at h; cases h
                | some y =>
                  obtain ⟨x, b⟩ := y
                  simp only [h5] at h
                  have l5 := text_parts h5
                  have l6 := ihK h
                  rw [List.length_append] at l6
                  omega
end Go.Proofs.YtklcjimmbkpbdaaGreatDoor
