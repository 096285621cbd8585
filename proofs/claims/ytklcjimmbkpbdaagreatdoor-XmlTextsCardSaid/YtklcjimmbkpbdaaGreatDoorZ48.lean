/-
  Any text in an element and in a value, plain: what is written is read again. No conditions.
-/
import Derived.Test.YtklcjimmbkpbdaaGreatDoorZ32
namespace Go.Proofs.YtklcjimmbkpbdaaGreatDoor
open Go.Lib

theorem lines_no13 : ∀ s : Bt, (13 : UInt8) ∉ linesL s
  | [] => by rw [linesL]; exact List.not_mem_nil
  | c :: r => by
    have ih := lines_no13 r
    rw [linesL]
    by_cases h : c = 13
    · rw [if_pos h]
      split
      · exact ih
      · intro hm
        rcases List.mem_cons.1 hm with e | e
        · exact absurd e (by decide)
        · exact ih e
    · rw [if_neg h]
      intro hm
      rcases List.mem_cons.1 hm with e | e
      · exact h e.symm
      · exact ih e
theorem lines_pass (r : Bt) : ∀ a : Bt, (13 : UInt8) ∉ a → linesL (a ++ r) = a ++ linesL r
  | [], _ => rfl
  | c :: a, h => by
    rw [List.cons_append, linesL, if_neg (fun e => h (by rw [e]; exact List.mem_cons_self)), lines_pass r a (fun e => h (List.mem_cons_of_mem _ e))]
    rfl
/-- Code points that XML has, at most so many, as bytes. -/
def PTn (n : Nat) (s : Bt) : Prop := ∃ zs, AllPt zs ∧ (∀ z ∈ zs, inXml z = true) ∧ s = enc zs ∧ zs.length ≤ n
theorem PTn.pt {n : Nat} {s : Bt} (h : PTn n s) : PT s := by
  obtain ⟨zs, h1, h2, h3, _⟩ := h
  exact ⟨zs, h1, h2, h3⟩
theorem PTn.cons {n : Nat} {s : Bt} {z : Int} (hz : isPt z = true) (hx : inXml z = true) (h : PTn n s) : PTn (n + 1) (encodeRune z ++ s) := by
  obtain ⟨zs, h1, h2, rfl, h4⟩ := h
  refine ⟨z :: zs, fun x hx => ?_, fun y hy => ?_, by simp [enc], by rw [List.length_cons]; omega⟩
  · rcases List.mem_cons.1 hx with e | e
    · rw [e]; exact hz
    · exact h1 x e
  · rcases List.mem_cons.1 hy with e | e
    · rw [e]; exact hx
    · exact h2 y e
theorem PTn.mono {n m : Nat} {s : Bt} (h : PTn n s) (hm : n ≤ m) : PTn m s := by
  obtain ⟨zs, h1, h2, h3, h4⟩ := h
  exact ⟨zs, h1, h2, h3, by omega⟩
theorem lines_enc : ∀ zs : List Int, AllPt zs → (∀ z ∈ zs, inXml z = true) → PTn zs.length (linesL (enc zs))
  | [], _, _ => ⟨[], fun _ h => absurd h List.not_mem_nil, fun _ h => absurd h List.not_mem_nil, rfl, Nat.le_refl _⟩
  | z :: zs, h1, h2 => by
    have ih := lines_enc zs (fun x hx => h1 x (List.mem_cons_of_mem _ hx)) (fun x hx => h2 x (List.mem_cons_of_mem _ hx))
    have e0 : enc (z :: zs) = encodeRune z ++ enc zs := by simp [enc]
    rw [e0]
    by_cases hz : z = 13
    · subst hz
      have e1 : encodeRune 13 = [13] := by decide
      rw [e1]
      show PTn _ (linesL (13 :: enc zs))
      rw [linesL, if_pos rfl]
      split
      · exact ih.mono (by rw [List.length_cons]; omega)
      · exact PTn.cons (z := 10) (by decide) (by decide) ih
    · have hm : (13 : UInt8) ∉ encodeRune z := fun e => hz (encodeRune_mem z (h1 z List.mem_cons_self) 13 e (by decide))
      rw [lines_pass _ _ hm]
      exact PTn.cons (h1 z List.mem_cons_self) (h2 z List.mem_cons_self) ih
theorem open_of {n : Nat} {s : Bt} (h : PTn n s) (h13 : (13 : UInt8) ∉ s) : openB s = true := by
  unfold openB
  rw [Bool.and_eq_true]
  refine ⟨(plain_iff _).2 h.pt, ?_⟩
  cases hc : s.contains 13 with
  | false => rfl
  | true => exact absurd (List.contains_iff_mem.1 hc) h13
theorem hP_enc (p : Int) : (enc (hP p)).length ≤ 6 := by
  have h1 := (encodeRune_length p).2
  have e : (enc [p]).length = (encodeRune p).length := by simp [enc]
  by_cases h38 : p = 38
  · subst h38; decide
  by_cases h60 : p = 60
  · subst h60; decide
  by_cases h62 : p = 62
  · subst h62; decide
  by_cases h34 : p = 34
  · subst h34; decide
  by_cases h39 : p = 39
  · subst h39; decide
  unfold hP
  rw [if_neg h38, if_neg h60, if_neg h62, if_neg h34, if_neg h39]
  omega
theorem hA_enc (p : Int) : (enc (hA p)).length ≤ 6 := by
  unfold hA
  by_cases h10 : p = 10
  · subst h10; decide
  by_cases h9 : p = 9
  · subst h9; decide
  rw [if_neg h10, if_neg h9]
  exact hP_enc p
theorem flat_enc {f : Int → List Int} (hf : ∀ p, (enc (f p)).length ≤ 6) : ∀ l : List Int, (enc (l.flatMap f)).length ≤ 6 * l.length
  | [] => Nat.zero_le _
  | p :: l => by
    have ih := flat_enc hf l
    have h := hf p
    have e2 : ∀ a b : List Int, enc (a ++ b) = enc a ++ enc b := fun a b => by simp [enc]
    rw [List.flatMap_cons, e2, List.length_append, List.length_cons]
    omega
theorem html_six {n : Nat} {t : Bt} (h : PTn n t) : (htmlB t).length ≤ 6 * n ∧ (attrV (htmlB t)).length ≤ 6 * n := by
  obtain ⟨zs, h1, h2, rfl, h4⟩ := h
  rw [html_of h1 h2]
  have a1 := flat_enc hP_enc zs
  have a2 := flat_enc hA_enc zs
  exact ⟨by unfold html; omega, by rw [attrV_html zs h1]; omega⟩
/-- An element a with a text, and with the same one as the value of its attribute b. -/
def nodeT (t : Bt) : XV := .mk [] [97] [([], [98], t)] (if t = [] then [] else [textX t]) []
theorem nodeT_right {t : Bt} (h : openB t = true) : rightX 24 (nodeT t) = true := by
  have hn : rightNameB [97] = true := by decide
  have hb : rightNameB [98] = true := by decide
  have h0 : openB [] = true := by decide
  unfold nodeT
  rw [rightX]
  simp only [XV.name, XV.space, XV.text, XV.attrs, XV.kids, hn, h0]
  have ha : rightAttrsB [([], [98], t)] = true := by
    unfold rightAttrsB rightAttrB
    simp [hb, h, xmlnsW]
  rw [ha]
  by_cases ht : t = []
  · rw [if_pos ht, rightKidsB]; rfl
  · rw [if_neg ht, rightKidsB, rightKidsB]
    have : rightTextB (textX t) = true := by
      unfold rightTextB textX
      simp [XV.text, XV.space, XV.attrs, XV.kids, ht, h]
    simp [textX, XV.name] at this ⊢
    exact this
theorem nodeT_back {t : Bt} (h : openB t = true) (hl : PTn 5000 t) : parseX (printX (nodeT t) []) = (nodeT t, 0) := by
  refine parse_print (nodeT_right h) ?_
  obtain ⟨h1, h2⟩ := html_six hl
  unfold nodeT
  rw [printX, if_neg (by decide)]
  have ha : (attrsP [([], [98], t)]).length ≤ 6 * 5000 + 5 := by
    unfold attrsP attrP
    simp only [List.flatMap_cons, List.flatMap_nil, List.append_nil, List.length_append, List.length_cons, List.length_nil]
    omega
  by_cases ht : t = []
  · rw [if_pos ht]
    simp only [List.length_append, List.length_cons, List.length_nil, if_pos, List.isEmpty_nil]
    omega
  · rw [if_neg ht]
    have hk : (printsX [textX t] []).length ≤ 6 * 5000 := by
      rw [printsX, printsX, List.append_nil]
      unfold textX
      rw [printX, if_pos rfl]
      exact h1
    simp only [List.length_append, List.length_cons, List.length_nil, if_pos, List.isEmpty_cons, Bool.false_eq_true, if_false]
    omega
end Go.Proofs.YtklcjimmbkpbdaaGreatDoor
