/-
  Plain facts of layer 4: texts split at a byte and put together again, paths without dots. No conditions.
-/
import Derived.Test.YtlgggibdgfdmhaaGreatDoorLkP
namespace Go.Proofs.YtlgggibdgfdmhaaGreatDoor
open Go.Lib

def splitP (c : UInt8) : List UInt8 → List (List UInt8)
  | [] => [[]]
  | x :: r => if x = c then [] :: splitP c r else match splitP c r with
    | [] => [[x]]
    | y :: ys => (x :: y) :: ys
theorem splitP_cons (c x : UInt8) (r : List UInt8) : splitP c (x :: r) = if x = c then [] :: splitP c r else match splitP c r with
    | [] => [[x]]
    | y :: ys => (x :: y) :: ys := rfl
theorem splitP_ne (c : UInt8) (l : List UInt8) : splitP c l ≠ [] := by
  cases l with
  | nil => simp [splitP]
  | cons x r =>
    rw [splitP_cons]
    split
    · simp
    · split <;> simp
theorem splitP_no (c : UInt8) (l : List UInt8) (h : c ∉ l) : splitP c l = [l] := by
  induction l with
  | nil => rfl
  | cons x r ih =>
    rw [List.mem_cons, not_or] at h
    rw [splitP_cons, if_neg (fun e => h.1 e.symm), ih h.2]
theorem splitP_mid (c : UInt8) (a b : List UInt8) (h : c ∉ a) : splitP c (a ++ c :: b) = a :: splitP c b := by
  induction a with
  | nil => rw [List.nil_append, splitP_cons, if_pos rfl]
  | cons x r ih =>
    rw [List.mem_cons, not_or] at h
    rw [List.cons_append, splitP_cons, if_neg (fun e => h.1 e.symm), ih h.2]
/-- The parts of a text, by its first mark. -/
theorem splitP_cut (c : UInt8) (l : List UInt8) : splitP c l = if (cut l [c]).2.2 = true then (cut l [c]).1 :: splitP c (cut l [c]).2.1 else [(cut l [c]).1] := by
  rcases cut1_or l c with ⟨h, e⟩ | ⟨a, b, rfl, h, e⟩
  · rw [e, splitP_no c l h]; rfl
  · rw [e, splitP_mid c a b h]; rfl
theorem splitP_ind {P : List UInt8 → Prop} (c : UInt8) (h0 : ∀ l, c ∉ l → P l) (h1 : ∀ a b, c ∉ a → P b → P (a ++ c :: b)) (l : List UInt8) : P l := by
  induction hn : l.length using Nat.strongRecOn generalizing l with
  | _ n ih =>
    rcases cut1_or l c with ⟨h, _⟩ | ⟨a, b, rfl, h, _⟩
    · exact h0 l h
    · refine h1 a b h (ih b.length ?_ b rfl)
      rw [← hn]; simp; omega
theorem splitP_parts (c : UInt8) (l : List UInt8) : ∀ x ∈ splitP c l, c ∉ x := by
  refine splitP_ind (P := fun l => ∀ x ∈ splitP c l, c ∉ x) c ?_ ?_ l
  · intro l h x hx
    rw [splitP_no c l h, List.mem_singleton] at hx
    exact hx ▸ h
  · intro a b h ih x hx
    rw [splitP_mid c a b h, List.mem_cons] at hx
    rcases hx with rfl | hx
    · exact h
    · exact ih x hx
theorem splitP_mem (c : UInt8) (l : List UInt8) : ∀ x ∈ splitP c l, ∀ y ∈ x, y ∈ l := by
  refine splitP_ind (P := fun l => ∀ x ∈ splitP c l, ∀ y ∈ x, y ∈ l) c ?_ ?_ l
  · intro l h x hx y hy
    rw [splitP_no c l h, List.mem_singleton] at hx
    exact hx ▸ hy
  · intro a b h ih x hx y hy
    rw [splitP_mid c a b h, List.mem_cons] at hx
    rcases hx with rfl | hx
    · simp [hy]
    · simp [ih x hx y hy]
theorem splitP_tail (c : UInt8) (hc : hexB c = false) (l : List UInt8) : tailOk l = true → ∀ x ∈ splitP c l, tailOk x = true := by
  refine splitP_ind (P := fun l => tailOk l = true → ∀ x ∈ splitP c l, tailOk x = true) c ?_ ?_ l
  · intro l h ht x hx
    rw [splitP_no c l h, List.mem_singleton] at hx
    exact hx ▸ ht
  · intro a b h ih ht x hx
    rw [tailOk_mid a b c hc, Bool.and_eq_true] at ht
    rw [splitP_mid c a b h, List.mem_cons] at hx
    rcases hx with rfl | hx
    · exact ht.1
    · exact ih (tailOk_tail ht.2) x hx
/-- Parts put together. -/
def joinP (c : UInt8) : List (List UInt8) → List UInt8
  | [] => []
  | [x] => x
  | x :: y :: r => x ++ c :: joinP c (y :: r)
theorem joinP_cons (c : UInt8) (x : List UInt8) {r : List (List UInt8)} (h : r ≠ []) : joinP c (x :: r) = x ++ c :: joinP c r := by
  cases r with
  | nil => exact absurd rfl h
  | cons y r => rfl
theorem splitP_join (c : UInt8) (xs : List (List UInt8)) (hne : xs ≠ []) (h : ∀ x ∈ xs, c ∉ x) : splitP c (joinP c xs) = xs := by
  induction xs with
  | nil => exact absurd rfl hne
  | cons x r ih =>
    cases r with
    | nil => exact splitP_no c x (h x (by simp))
    | cons y r => rw [joinP_cons c x (by simp), splitP_mid c x _ (h x (by simp)), ih (by simp) (fun z hz => h z (by simp [hz]))]
theorem joinP_split (c : UInt8) (l : List UInt8) : joinP c (splitP c l) = l := by
  refine splitP_ind (P := fun l => joinP c (splitP c l) = l) c ?_ ?_ l
  · intro l h; rw [splitP_no c l h]; rfl
  · intro a b h ih
    rw [splitP_mid c a b h, joinP_cons c a (splitP_ne c b), ih]
def flatL (xs : List (List UInt8)) : List UInt8 := xs.flatMap (47 :: ·)
theorem flat_snoc (xs : List (List UInt8)) (x : List UInt8) : flatL (xs ++ [x]) = flatL xs ++ 47 :: x := by simp [flatL]
theorem flat_join (xs : List (List UInt8)) (h : xs ≠ []) : flatL xs = 47 :: joinP 47 xs := by
  induction xs with
  | nil => exact absurd rfl h
  | cons x r ih =>
    cases r with
    | nil => simp [flatL, joinP]
    | cons y r =>
      rw [joinP_cons 47 x (by simp)]
      show (47 :: x) ++ flatL (y :: r) = _
      rw [ih (by simp)]
      rfl

/-! ### dots -/

def dotB (x : List UInt8) : Bool := x == [46] || x == [46, 46]
def dstep (out : List (List UInt8)) (x : List UInt8) : List (List UInt8) := if x = [46, 46] then out.dropLast else if x = [46] then out else out ++ [x]
/-- What is left behind the last part, which was left out or not. -/
def dend (out : List (List UInt8)) (b : Bool) : List (List UInt8) := if b then out ++ [[]] else out
/-- The parts to come, by what is left so far. -/
def dgo (out : List (List UInt8)) (b : Bool) : List (List UInt8) → List (List UInt8)
  | [] => dend out b
  | x :: r => dgo (dstep out x) (dotB x) r
def dotsL (p : List UInt8) : List UInt8 := if p.head? = some 47 then flatL (dgo [] false (splitP 47 (p.drop 1))) else p
theorem dstep_no {x : List UInt8} (h : dotB x = false) (out : List (List UInt8)) : dstep out x = out ++ [x] := by
  unfold dotB at h
  simp at h
  unfold dstep; rw [if_neg h.2, if_neg h.1]
theorem dgo_plain (xs : List (List UInt8)) (h : ∀ x ∈ xs, dotB x = false) : ∀ out, dgo out false xs = out ++ xs := by
  induction xs with
  | nil => intro out; simp [dgo, dend]
  | cons x r ih =>
    intro out
    show dgo (dstep out x) (dotB x) r = _
    rw [h x (by simp), dstep_no (h x (by simp)), ih (fun y hy => h y (by simp [hy]))]
    simp
theorem dgo_all {P : List UInt8 → Prop} (h0 : P []) (xs : List (List UInt8)) : ∀ (out : List (List UInt8)) (b : Bool), (∀ x ∈ xs, dotB x = false → P x) → (∀ x ∈ out, P x) → ∀ x ∈ dgo out b xs, P x := by
  induction xs with
  | nil =>
    intro out b _ ho x hx
    unfold dgo dend at hx
    split at hx
    · rw [List.mem_append, List.mem_singleton] at hx
      rcases hx with hx | rfl
      · exact ho x hx
      · exact h0
    · exact ho x hx
  | cons y r ih =>
    intro out b hx ho
    refine ih _ _ (fun z hz => hx z (by simp [hz])) (fun z hz => ?_)
    unfold dstep at hz
    split at hz
    · exact ho z (List.dropLast_subset _ hz)
    · split at hz
      · exact ho z hz
      · rename_i h1 h2
        rw [List.mem_append, List.mem_singleton] at hz
        rcases hz with hz | rfl
        · exact ho z hz
        · exact hx z (by simp) (by simp [dotB, h1, h2])
theorem dgo_ne (xs : List (List UInt8)) : ∀ (out : List (List UInt8)) (b : Bool), (b = true ∨ out ≠ [] ∨ xs ≠ []) → dgo out b xs ≠ [] := by
  induction xs with
  | nil =>
    intro out b h
    unfold dgo dend
    split
    · simp
    · rename_i hb
      rcases h with h | h | h
      · exact absurd h hb
      · exact h
      · exact absurd rfl h
  | cons x r ih =>
    intro out b _
    refine ih _ _ ?_
    cases hd : dotB x with
    | true => exact .inl rfl
    | false => rw [dstep_no hd]; exact .inr (.inl (by simp))
theorem dots_slash (p : List UInt8) (h : p.head? = some 47) : dotsL p = flatL (dgo [] false (splitP 47 (p.drop 1))) := by unfold dotsL; rw [if_pos h]
theorem dots_else (p : List UInt8) (h : p.head? ≠ some 47) : dotsL p = p := by unfold dotsL; rw [if_neg h]
theorem dots_flat (xs : List (List UInt8)) (hne : xs ≠ []) (h : ∀ x ∈ xs, dotB x = false ∧ (47 : UInt8) ∉ x) : dotsL (flatL xs) = flatL xs := by
  rw [flat_join xs hne, dots_slash _ rfl, List.drop_one, List.tail_cons, splitP_join 47 xs hne (fun x hx => (h x hx).2), dgo_plain xs (fun x hx => (h x hx).1), List.nil_append, flat_join xs hne]
theorem dots_parts (p : List UInt8) (h : p.head? = some 47) : ∃ xs, xs ≠ [] ∧ dotsL p = flatL xs ∧ ∀ x ∈ xs, dotB x = false ∧ (47 : UInt8) ∉ x ∧ (x = [] ∨ x ∈ splitP 47 (p.drop 1)) := by
  refine ⟨_, ?_, dots_slash p h, ?_⟩
  · exact dgo_ne _ _ _ (.inr (.inr (splitP_ne _ _)))
  · refine dgo_all (P := fun x => dotB x = false ∧ (47 : UInt8) ∉ x ∧ (x = [] ∨ x ∈ splitP 47 (p.drop 1))) ⟨by decide, by simp, .inl rfl⟩ _ _ _ (fun x hx hd => ⟨hd, splitP_parts _ _ x hx, .inr hx⟩) (by simp)
theorem dots_twice (p : List UInt8) : dotsL (dotsL p) = dotsL p := by
  by_cases h : p.head? = some 47
  · obtain ⟨xs, hne, he, hx⟩ := dots_parts p h
    rw [he, dots_flat xs hne (fun x h => ⟨(hx x h).1, (hx x h).2.1⟩)]
  · rw [dots_else p h, dots_else p h]
theorem dots_head (p : List UInt8) : (dotsL p).head? = p.head? := by
  by_cases h : p.head? = some 47
  · obtain ⟨xs, hne, he, _⟩ := dots_parts p h
    rw [he, flat_join xs hne, h]; rfl
  · rw [dots_else p h]
theorem flat_mem (xs : List (List UInt8)) (y : UInt8) (h : y ∈ flatL xs) : y = 47 ∨ ∃ x ∈ xs, y ∈ x := by
  unfold flatL at h
  obtain ⟨x, hx, hy⟩ := List.mem_flatMap.1 h
  rw [List.mem_cons] at hy
  rcases hy with hy | hy
  · exact .inl hy
  · exact .inr ⟨x, hx, hy⟩
theorem dots_mem (p : List UInt8) (y : UInt8) (h : y ∈ dotsL p) : y = 47 ∨ y ∈ p := by
  by_cases hh : p.head? = some 47
  · obtain ⟨xs, hne, he, hx⟩ := dots_parts p hh
    rw [he] at h
    rcases flat_mem xs y h with h | ⟨x, hxm, hy⟩
    · exact .inl h
    · rcases (hx x hxm).2.2 with rfl | hs
      · cases hy
      · exact .inr (List.mem_of_mem_drop (splitP_mem 47 _ x hs y hy))
  · rw [dots_else p hh] at h; exact .inr h
theorem flat_tail (xs : List (List UInt8)) (h : ∀ x ∈ xs, tailOk x = true) : tailOk (flatL xs) = true := by
  induction xs with
  | nil => rfl
  | cons x r ih =>
    have ihr := ih (fun y hy => h y (by simp [hy]))
    show tailOk (47 :: (x ++ flatL r)) = true
    refine tailOk_cons (by decide) (by decide) ?_
    cases r with
    | nil => rw [show flatL [] = [] from rfl, List.append_nil]; exact h x (by simp)
    | cons y r =>
      rw [show flatL (y :: r) = 47 :: (y ++ flatL r) from rfl] at ihr ⊢
      rw [tailOk_mid _ _ _ (by decide), h x (by simp), ihr]; rfl
theorem dots_tail (p : List UInt8) (h : tailOk p = true) : tailOk (dotsL p) = true := by
  by_cases hh : p.head? = some 47
  · obtain ⟨xs, hne, he, hx⟩ := dots_parts p hh
    rw [he]
    have hd : tailOk (p.drop 1) = true := by
      cases p with
      | nil => rfl
      | cons c r => exact tailOk_tail h
    refine flat_tail xs (fun x hxm => ?_)
    rcases (hx x hxm).2.2 with rfl | hs
    · rfl
    · exact splitP_tail 47 (by decide) _ hd x hs
  · rw [dots_else p hh]; exact h
theorem flat_length_snoc (xs : List (List UInt8)) (x : List UInt8) : (flatL (xs ++ [x])).length = (flatL xs).length + 1 + x.length := by rw [flat_snoc]; simp; omega
theorem flat_dropLast (xs : List (List UInt8)) : (flatL xs.dropLast).length ≤ (flatL xs).length := by
  rcases List.eq_nil_or_concat xs with h | ⟨m, d, h⟩
  · rw [h]; simp
  · rw [h, List.concat_eq_append, List.dropLast_concat, flat_length_snoc]; omega
theorem dgo_length (xs : List (List UInt8)) : ∀ (out : List (List UInt8)) (b : Bool), (flatL (dgo out b xs)).length ≤ (flatL out).length + (if b then 1 else 0) + (flatL xs).length := by
  induction xs with
  | nil =>
    intro out b
    unfold dgo dend
    split
    · rw [flat_length_snoc]; simp
    · omega
  | cons x r ih =>
    intro out b
    have h := ih (dstep out x) (dotB x)
    have e : (flatL (x :: r)).length = 1 + x.length + (flatL r).length := by
      show ((47 :: x) ++ flatL r).length = _
      simp; omega
    have h2 : (flatL (dstep out x)).length + (if dotB x then 1 else 0) ≤ (flatL out).length + 1 + x.length := by
      cases hd : dotB x with
      | false => rw [dstep_no hd, flat_length_snoc]; simp
      | true =>
        have hl : 1 ≤ x.length := by
          unfold dotB at hd; simp at hd; rcases hd with rfl | rfl <;> decide
        have : (flatL (dstep out x)).length ≤ (flatL out).length := by
          unfold dstep
          split
          · exact flat_dropLast out
          · split
            · exact Nat.le_refl _
            · rename_i h1 h2
              unfold dotB at hd; simp [h1, h2] at hd
        simp; omega
    show (flatL (dgo (dstep out x) (dotB x) r)).length ≤ _
    omega
theorem dots_length (p : List UInt8) : (dotsL p).length ≤ p.length := by
  by_cases h : p.head? = some 47
  · rw [dots_slash p h]
    have h1 := dgo_length (splitP 47 (p.drop 1)) [] false
    have h2 : flatL (splitP 47 (p.drop 1)) = p := by
      rw [flat_join _ (splitP_ne _ _), joinP_split]
      cases p with
      | nil => cases h
      | cons c r => simp at h; rw [h]; rfl
    rw [h2] at h1
    simp [flatL] at h1 ⊢
    omega
  · rw [dots_else p h]; exact Nat.le_refl _
/-- A link whose path is without dots is a link. -/
theorem wf_dots {p : Lk} (h : WF p) : WF { p with path := dotsL p.path } := by
  have hm : ∀ y, y ≠ 47 → y ∉ p.path → y ∉ dotsL p.path := fun y h1 h2 h3 => (dots_mem _ _ h3).elim h1 h2
  refine ⟨h.sch, h.host, h.host1, h.host2, h.port, ?_, ?_, hm 63 (by decide) h.pathQ, hm 35 (by decide) h.pathF, h.quF, h.frF, h.noQ, h.noF⟩
  · have := h.path
    unfold pathB at this ⊢
    rw [dots_head]
    rw [Bool.or_eq_true] at this ⊢
    rcases this with h1 | h1
    · left
      rw [List.isEmpty_iff] at h1 ⊢
      rw [h1]; rfl
    · exact .inr h1
  · have ht := h.tail
    have key : ∀ (a : List UInt8) (b : List UInt8), (∀ c r, b = c :: r → hexB c = false) → tailOk (a ++ b) = (tailOk a && tailOk b) := by
      intro a b hb
      cases b with
      | nil => simp [tailOk]
      | cons c r => exact tailOk_mid a r c (hb c r rfl)
    have hb : ∀ c r, markL p.hasQ 63 p.query ++ markL p.hasF 35 p.frag = c :: r → hexB c = false := by
      intro c r h
      cases hq : markL p.hasQ 63 p.query with
      | nil => rw [hq, List.nil_append] at h; rw [mark_head h]; decide
      | cons x t => rw [hq] at h; injection h with h1; rw [← h1, mark_head hq]; decide
    unfold restL at ht ⊢
    rw [List.append_assoc, key _ _ hb, Bool.and_eq_true] at ht ⊢
    exact ⟨dots_tail _ ht.1, ht.2⟩
theorem print_dots_length (p : Lk) : (printL { p with path := dotsL p.path }).length ≤ (printL p).length := by
  have := dots_length p.path
  unfold printL restL rootL
  simp
  omega
end Go.Proofs.YtlgggibdgfdmhaaGreatDoor
