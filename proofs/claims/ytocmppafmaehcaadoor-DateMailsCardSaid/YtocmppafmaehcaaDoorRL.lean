/-
  What the walk of the document's Mail of layer 3 rests on: where the words lie, bounds of what is read.
-/
import Derived.Test.YtocmppafmaehcaaDoorRI
import Derived.Test.YtocmppafmaehcaaDoorRK
namespace Go.Proofs.YtocmppafmaehcaaDoor
open Go.RowKit
open Go.Lib

/-- These words lie from there on. -/
def WS (w : World) (b o : Nat) (ws : List (List UInt8)) : Prop := ∀ j, j < ws.length → w.cell? ⟨b, o + j, none⟩ = some (.string ⟨(ws.getD j []).toArray⟩)
theorem WS.of {w : World} {b : Nat} {ws : List (List UInt8)} (h : RT w b (ws.map fun x => ⟨x.toArray⟩)) : WS w b 0 ws := by
  intro j hj
  have := h j (by rw [List.length_map]; exact hj)
  rw [Nat.zero_add, this]
  simp [List.getD, List.getElem?_eq_getElem hj]
theorem WS.tail {w : World} {b : Nat} {ws : List (List UInt8)} (h : WS w b 0 ws) : WS w b 1 (ws.drop 1) := by
  intro j hj
  rw [List.length_drop] at hj
  have := h (j + 1) (by omega)
  rw [Nat.add_comm 1 j, ← Nat.zero_add (j + 1), this]
  simp [List.getD]
theorem WS.kept {w w' : World} {b o : Nat} {ws : List (List UInt8)} (h : WS w b o ws) (hb : b < w.heap.size) (k : Below w.heap.size w w') : WS w' b o ws := fun j hj =>
  (Below.cell k (p := ⟨b, o + j, none⟩) hb).trans (h j hj)
theorem words_le : ∀ (l x : List UInt8), x ∈ wordsP l → x.length ≤ l.length
  | [], x, h => by simp [wordsP] at h; subst h; simp
  | c :: r, x, h => by
    unfold wordsP at h
    split at h
    · rcases List.mem_cons.1 h with e | h
      · subst e; simp
      · have := words_le r x h; simp; omega
    · have ih := words_le r
      cases hw : wordsP r with
      | nil => rw [hw] at h; simp at h; subst h; simp
      | cons y ys =>
        rw [hw] at h ih
        rcases List.mem_cons.1 h with e | h
        · subst e; have := ih y List.mem_cons_self; simp; omega
        · have := ih x (List.mem_cons_of_mem _ h); simp; omega
theorem week_lists : lists weekB = weekN := by rfl
theorem months_lists : lists monthsB = monthsN := by rfl
theorem rlikeV (l p : List UInt8) (v : Bool) (hv : likeP l p = v) (hl : l.length ≤ 1000) (hp : p.length ≤ 1000) (w : World) : Calls Tryd.prog 27 #[.string ⟨l.toArray⟩, .string ⟨p.toArray⟩] w fun e w' => e = .returned (.bool v) ∧ Below w.heap.size w w' := by
  subst hv; exact rlikeB l p w hl hp
theorem place_le (x : List UInt8) : ∀ ws : List (List UInt8), placeP x ws ≤ ws.length
  | [] => by simp [placeP]
  | y :: ws => by
    have := place_le x ws
    unfold placeP
    simp only [List.length_cons]
    split
    · omega
    · split <;> omega
theorem rdigL (l : List UInt8) (v : Int) (hv : digP l = v) (hl : l.length ≤ 9) (w : World) : Calls Tryd.prog 28 #[.string ⟨l.toArray⟩] w fun e w' => e = .returned (.int .i64 v) ∧ w = w' := by
  subst hv; exact rdigits_any ⟨l.toArray⟩ w (by rw [size_list]; exact hl)
def MailOk (a y d : List UInt8) : Prop := (likeP a [57] = true ∨ likeP a [57, 57] = true) ∧ (likeP y [57, 57] = true ∨ likeP y [57, 57, 57, 57] = true) ∧ (likeP d [57, 57, 58, 57, 57] = true ∨ likeP d [57, 57, 58, 57, 57, 58, 57, 57] = true)
theorem mail_facts {a y d : List UInt8} (h : MailOk a y d) : (a.length ≤ 9 ∧ 0 ≤ digP a ∧ digP a ≤ 99) ∧ (y.length ≤ 9 ∧ 0 ≤ digP y ∧ digP y ≤ 9999) ∧ (0 ≤ digP (d.take 2) ∧ digP (d.take 2) ≤ 99) ∧ (0 ≤ digP ((d.drop 3).take 2) ∧ digP ((d.drop 3).take 2) ≤ 99) ∧ (d.length = 5 ∨ (d.length = 8 ∧ 0 ≤ digP (d.drop 6) ∧ digP (d.drop 6) ≤ 99)) := by
  obtain ⟨h1, h2, h3⟩ := h
  obtain ⟨H, M, dH, dM, eh, em, hs⟩ := like_clock h3
  have bH := dg2_bd dH
  have bM := dg2_bd dM
  rw [eh, em]
  refine ⟨?_, ?_, bH, bM, ?_⟩
  · rcases like_day.1 h1 with hd | hd
    · have := dg1_bd hd; rw [hd.digP, hd.1]; omega
    · have := dg2_bd hd; rw [hd.digP, hd.1]; omega
  · rcases like_year.1 h2 with hd | hd
    · have := dg2_bd hd; rw [hd.digP, hd.1]; omega
    · have := dg4_bd hd; rw [hd.digP, hd.1]; omega
  · rcases hs with ⟨e, _⟩ | ⟨S, dS, e, es⟩
    · left; rw [e]; simp [dH.1, dM.1]
    · right
      have hl : d.length = 8 := by rw [e]; simp [dH.1, dM.1, dS.1]
      rw [if_pos hl] at es
      rw [es]
      exact ⟨hl, dg2_bd dS⟩
/-- Where the words are, behind the head. -/
def HeadOut (R : List (List UInt8)) (b : Nat) (w : World) (s4 : Value) (wx : World) : Prop :=
  ∃ (o : Nat) (ws : List (List UInt8)) (c : Nat), s4 = .slice (some ⟨b, o, none⟩) ws.length c ∧ ws.length ≤ c ∧ Hid (mailHead R = some ws) ∧ WS wx b o ws ∧ b < wx.heap.size ∧ (∀ x ∈ ws, x.length ≤ 250) ∧ Below w.heap.size w wx
end Go.Proofs.YtocmppafmaehcaaDoor
