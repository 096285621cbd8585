/-
  Plain facts of layer 4: percents in one form, the one form of a link, what a text is beside a link. No conditions.
-/
import Derived.Test.YtlgggibdgfdmhaaGreatDoorLkQ
namespace Go.Proofs.YtlgggibdgfdmhaaGreatDoor
open Go.Lib

def hexN (c : UInt8) : Nat := if 48 ≤ c.toNat ∧ c.toNat ≤ 57 then c.toNat - 48 else if 97 ≤ c.toNat then c.toNat - 87 else c.toNat - 55
def hU (n : Nat) : UInt8 := ([48, 49, 50, 51, 52, 53, 54, 55, 56, 57, 65, 66, 67, 68, 69, 70] : List UInt8).getD n 0
def stays (c : UInt8) : Bool := letB c || dgtB c || c == 45 || c == 46 || c == 95 || c == 126
def pct1 (c : UInt8) : List UInt8 := if stays c = true then [c] else [37, hU (c.toNat / 16), hU (c.toNat % 16)]
/-- The byte that two digits at the front tell. -/
def byteAt : List UInt8 → UInt8
  | a :: b :: _ => UInt8.ofNat (hexN a * 16 + hexN b)
  | _ => 0
def normL (l : List UInt8) : List UInt8 :=
  match l with
  | [] => []
  | c :: r => if c = 37 ∧ escAt r = true then pct1 (byteAt r) ++ normL (r.drop 2) else c :: normL r
termination_by l.length
decreasing_by all_goals (simp; try omega)
theorem normL_nil : normL [] = [] := by rw [normL]
theorem normL_esc {r : List UInt8} (h : escAt r = true) : normL (37 :: r) = pct1 (byteAt r) ++ normL (r.drop 2) := by rw [normL, if_pos ⟨rfl, h⟩]
theorem normL_else {c : UInt8} {r : List UInt8} (h : ¬ (c = 37 ∧ escAt r = true)) : normL (c :: r) = c :: normL r := by rw [normL, if_neg h]
/-- A text in its one form: each percent has two upper digits behind it, of a byte that doesn't stand for itself. -/
def normB (l : List UInt8) : Bool :=
  match l with
  | [] => true
  | c :: r => if c = 37 then escAt r && (pct1 (byteAt r) == 37 :: r.take 2) && normB (r.drop 2) else tailB c && normB r
termination_by l.length
decreasing_by all_goals (simp; try omega)
theorem normB_nil : normB [] = true := by rw [normB]
theorem normB_pct (r : List UInt8) : normB (37 :: r) = (escAt r && (pct1 (byteAt r) == 37 :: r.take 2) && normB (r.drop 2)) := by rw [normB, if_pos rfl]
theorem normB_else {c : UInt8} (r : List UInt8) (h : c ≠ 37) : normB (c :: r) = (tailB c && normB r) := by rw [normB, if_neg h]

/-! ### all bytes, by the kernel -/
theorem u8_all {p : UInt8 → Bool} (h : (List.range 256).all (fun n => p (UInt8.ofNat n)) = true) (c : UInt8) : p c = true := by
  have := List.all_eq_true.1 h c.toNat (List.mem_range.2 (UInt8.toNat_lt c))
  simpa using this
theorem stays_tail (c : UInt8) : (!stays c || (tailB c && c != 37 && c != 47 && c != 63 && c != 35 && c != 38)) = true := u8_all (p := fun c => (!stays c || (tailB c && c != 37 && c != 47 && c != 63 && c != 35 && c != 38))) (by decide +kernel) c
theorem hex_tail (c : UInt8) : (!hexB c || (tailB c && c != 37 && c != 47 && c != 63 && c != 35 && c != 38)) = true := u8_all (p := fun c => (!hexB c || (tailB c && c != 37 && c != 47 && c != 63 && c != 35 && c != 38))) (by decide +kernel) c
/-- The form of one byte, read again. -/
theorem pct_self (c : UInt8) : (stays c || (hexB (hU (c.toNat / 16)) && hexB (hU (c.toNat % 16)) && (byteAt [hU (c.toNat / 16), hU (c.toNat % 16)] == c))) = true := u8_all (p := fun c => (stays c || (hexB (hU (c.toNat / 16)) && hexB (hU (c.toNat % 16)) && (byteAt [hU (c.toNat / 16), hU (c.toNat % 16)] == c)))) (by decide +kernel) c
theorem hexN_lt (c : UInt8) (h : hexB c = true) : hexN c < 16 := by
  have := u8_all (p := fun c => !hexB c || decide (hexN c < 16)) (by decide +kernel) c
  simp [h] at this
  exact this
theorem stays_facts {c : UInt8} (h : stays c = true) : tailB c = true ∧ c ≠ 37 ∧ c ≠ 47 ∧ c ≠ 63 ∧ c ≠ 35 ∧ c ≠ 38 := by
  have := stays_tail c
  simp [h] at this
  obtain ⟨⟨⟨⟨⟨h1, h2⟩, h3⟩, h4⟩, h5⟩, h6⟩ := this
  exact ⟨h1, h2, h3, h4, h5, h6⟩
theorem hex_facts {c : UInt8} (h : hexB c = true) : tailB c = true ∧ c ≠ 37 ∧ c ≠ 47 ∧ c ≠ 63 ∧ c ≠ 35 ∧ c ≠ 38 := by
  have := hex_tail c
  simp [h] at this
  obtain ⟨⟨⟨⟨⟨h1, h2⟩, h3⟩, h4⟩, h5⟩, h6⟩ := this
  exact ⟨h1, h2, h3, h4, h5, h6⟩
theorem pct_facts {c : UInt8} (h : stays c = false) : hexB (hU (c.toNat / 16)) = true ∧ hexB (hU (c.toNat % 16)) = true ∧ ∀ r, byteAt (hU (c.toNat / 16) :: hU (c.toNat % 16) :: r) = c := by
  have := pct_self c
  simp [h] at this
  exact ⟨this.1.1, this.1.2, fun r => this.2⟩
theorem esc_cases {r : List UInt8} (h : escAt r = true) : ∃ a b t, r = a :: b :: t ∧ hexB a = true ∧ hexB b = true := by
  match r, h with
  | a :: b :: t, h => simp [escAt] at h; exact ⟨a, b, t, rfl, h.1, h.2⟩
/-- What comes of one byte is in its form. -/
theorem normB_pct1 (c : UInt8) (r : List UInt8) : normB (pct1 c ++ r) = normB r := by
  cases h : stays c with
  | true =>
    obtain ⟨h1, h2, _⟩ := stays_facts h
    unfold pct1
    rw [if_pos h]
    show normB (c :: r) = _
    rw [normB_else r h2, h1]; simp
  | false =>
    obtain ⟨h1, h2, h3⟩ := pct_facts h
    have hp : pct1 c = [37, hU (c.toNat / 16), hU (c.toNat % 16)] := by unfold pct1; rw [if_neg (by simp [h])]
    rw [hp]
    show normB (37 :: (hU (c.toNat / 16) :: hU (c.toNat % 16) :: r)) = _
    rw [normB_pct, h3 r, hp]
    simp [escAt, h1, h2]
theorem tail_cases {c : UInt8} {r : List UInt8} (h : tailOk (c :: r) = true) : tailB c = true ∧ (c = 37 → escAt r = true) ∧ tailOk r = true := by
  have h' : (tailB c && (c != 37 || escAt r) && tailOk r) = true := h
  rw [Bool.and_eq_true, Bool.and_eq_true, Bool.or_eq_true] at h'
  refine ⟨h'.1.1, fun e => ?_, h'.2⟩
  rcases h'.1.2 with h1 | h1
  · rw [e] at h1; cases h1
  · exact h1
theorem list_ind {P : List UInt8 → Prop} (h0 : P []) (h1 : ∀ r, escAt r = true → P (r.drop 2) → P (37 :: r)) (h2 : ∀ c r, ¬ (c = 37 ∧ escAt r = true) → P r → P (c :: r)) (l : List UInt8) : P l := by
  induction hn : l.length using Nat.strongRecOn generalizing l with
  | _ n ih =>
    cases l with
    | nil => exact h0
    | cons c r =>
      by_cases hc : c = 37 ∧ escAt r = true
      · obtain ⟨rfl, he⟩ := hc
        refine h1 r he (ih _ ?_ (r.drop 2) rfl)
        rw [← hn]; simp; omega
      · refine h2 c r hc (ih _ ?_ r rfl)
        rw [← hn]; simp
theorem tail_drop2 {r : List UInt8} (h : tailOk r = true) : tailOk (r.drop 2) = true := by
  match r, h with
  | [], _ => rfl
  | [a], _ => rfl
  | a :: b :: t, h => exact tailOk_tail (tailOk_tail h)
theorem normB_norm (l : List UInt8) : tailOk l = true → normB (normL l) = true := by
  refine list_ind (P := fun l => tailOk l = true → normB (normL l) = true) (fun _ => by rw [normL_nil, normB_nil]) ?_ ?_ l
  · intro r he ih h
    rw [normL_esc he, normB_pct1]
    exact ih (tail_drop2 (tailOk_tail h))
  · intro c r hc ih h
    obtain ⟨h1, h2, h3⟩ := tail_cases h
    have hne : c ≠ 37 := fun e => hc ⟨e, h2 e⟩
    rw [normL_else hc, normB_else _ hne, h1, ih h3]; rfl
/-- What is in its one form stays. -/
theorem norm_of (l : List UInt8) : normB l = true → normL l = l := by
  refine list_ind (P := fun l => normB l = true → normL l = l) (fun _ => normL_nil) ?_ ?_ l
  · intro r he ih h
    rw [normB_pct, Bool.and_eq_true, Bool.and_eq_true, beq_iff_eq] at h
    rw [normL_esc he, ih h.2, h.1.2]
    show 37 :: (r.take 2 ++ r.drop 2) = _
    rw [List.take_append_drop]
  · intro c r hc ih h
    rw [normL_else hc]
    by_cases h37 : c = 37
    · subst h37
      rw [normB_pct, Bool.and_eq_true, Bool.and_eq_true] at h
      exact absurd ⟨rfl, h.1.1⟩ hc
    · rw [normB_else r h37, Bool.and_eq_true] at h
      rw [ih h.2]
theorem norm_tail (l : List UInt8) : normB l = true → tailOk l = true := by
  refine list_ind (P := fun l => normB l = true → tailOk l = true) (fun _ => rfl) ?_ ?_ l
  · intro r he ih h
    rw [normB_pct, Bool.and_eq_true] at h
    obtain ⟨a, b, t, rfl, ha, hb⟩ := esc_cases he
    have ht : tailOk t = true := ih h.2
    obtain ⟨a1, a2, _⟩ := hex_facts ha
    obtain ⟨b1, b2, _⟩ := hex_facts hb
    show (tailB 37 && ((37 : UInt8) != 37 || escAt (a :: b :: t)) && tailOk (a :: b :: t)) = true
    rw [he, tailOk_cons a1 a2 (tailOk_cons b1 b2 ht)]; decide
  · intro c r hc ih h
    by_cases h37 : c = 37
    · subst h37
      rw [normB_pct, Bool.and_eq_true, Bool.and_eq_true] at h
      exact absurd ⟨rfl, h.1.1⟩ hc
    · rw [normB_else r h37, Bool.and_eq_true] at h
      exact tailOk_cons h.1 h37 (ih h.2)
theorem normB_append (a : List UInt8) : ∀ b, normB a = true → normB (a ++ b) = normB b := by
  refine list_ind (P := fun a => ∀ b, normB a = true → normB (a ++ b) = normB b) (fun b _ => rfl) ?_ ?_ a
  · intro r he ih b h
    rw [normB_pct, Bool.and_eq_true, Bool.and_eq_true] at h
    obtain ⟨x, y, t, rfl, hx, hy⟩ := esc_cases he
    show normB (37 :: (x :: y :: (t ++ b))) = _
    rw [normB_pct]
    have h1 := h.1.2
    simp only [List.take_succ_cons, List.take_zero, List.drop_succ_cons, List.drop_zero] at h1 ⊢
    rw [show byteAt (x :: y :: (t ++ b)) = byteAt (x :: y :: t) from rfl, show escAt (x :: y :: (t ++ b)) = escAt (x :: y :: t) from rfl, he, h1]
    simp only [Bool.true_and]
    exact ih b h.2
  · intro c r hc ih b h
    by_cases h37 : c = 37
    · subst h37
      rw [normB_pct, Bool.and_eq_true, Bool.and_eq_true] at h
      exact absurd ⟨rfl, h.1.1⟩ hc
    · rw [normB_else r h37, Bool.and_eq_true] at h
      rw [List.cons_append, normB_else _ h37, h.1, ih b h.2]; rfl
/-- A mark that is no digit parts a text in its one form into such texts. -/
theorem normB_mid (c : UInt8) (hc : hexB c = false) (h37 : c ≠ 37) (a : List UInt8) : ∀ b, normB (a ++ c :: b) = true → normB a = true ∧ normB b = true := by
  refine list_ind (P := fun a => ∀ b, normB (a ++ c :: b) = true → normB a = true ∧ normB b = true) ?_ ?_ ?_ a
  · intro b h
    rw [List.nil_append, normB_else b h37, Bool.and_eq_true] at h
    exact ⟨normB_nil, h.2⟩
  · intro r he ih b h
    obtain ⟨x, y, t, rfl, hx, hy⟩ := esc_cases he
    rw [List.cons_append, normB_pct, Bool.and_eq_true, Bool.and_eq_true] at h
    have h1 := h.1.2
    have h2 := ih b h.2
    refine ⟨?_, h2.2⟩
    rw [normB_pct, he, h2.1, Bool.true_and, Bool.and_true]
    exact h1
  · intro x r hx ih b h
    by_cases hx37 : x = 37
    · subst hx37
      rw [List.cons_append, normB_pct, Bool.and_eq_true, Bool.and_eq_true, escAt_mid r b c hc] at h
      exact absurd ⟨rfl, h.1.1⟩ hx
    · rw [List.cons_append, normB_else _ hx37, Bool.and_eq_true] at h
      have h2 := ih b h.2
      exact ⟨by rw [normB_else r hx37, h.1, h2.1]; rfl, h2.2⟩
theorem splitP_norm (c : UInt8) (hc : hexB c = false) (h37 : c ≠ 37) (l : List UInt8) : normB l = true → ∀ x ∈ splitP c l, normB x = true := by
  refine splitP_ind (P := fun l => normB l = true → ∀ x ∈ splitP c l, normB x = true) c ?_ ?_ l
  · intro l h ht x hx
    rw [splitP_no c l h, List.mem_singleton] at hx
    exact hx ▸ ht
  · intro a b h ih ht x hx
    obtain ⟨h1, h2⟩ := normB_mid c hc h37 a b ht
    rw [splitP_mid c a b h, List.mem_cons] at hx
    rcases hx with rfl | hx
    · exact h1
    · exact ih h2 x hx
theorem flat_norm (xs : List (List UInt8)) (h : ∀ x ∈ xs, normB x = true) : normB (flatL xs) = true := by
  induction xs with
  | nil => exact normB_nil
  | cons x r ih =>
    show normB (47 :: (x ++ flatL r)) = true
    rw [normB_else _ (by decide), normB_append x _ (h x (by simp)), ih (fun y hy => h y (by simp [hy]))]; decide
theorem dots_norm (p : List UInt8) (h : normB p = true) : normB (dotsL p) = true := by
  by_cases hh : p.head? = some 47
  · obtain ⟨xs, hne, he, hx⟩ := dots_parts p hh
    rw [he]
    have hd : normB (p.drop 1) = true := by
      cases p with
      | nil => exact normB_nil
      | cons c r =>
        simp at hh
        subst hh
        rw [normB_else r (by decide), Bool.and_eq_true] at h
        exact h.2
    refine flat_norm xs (fun x hxm => ?_)
    rcases (hx x hxm).2.2 with rfl | hs
    · exact normB_nil
    · exact splitP_norm 47 (by decide) (by decide) _ hd x hs
  · rw [dots_else p hh]; exact h
theorem join_norm (xs : List (List UInt8)) (h : ∀ x ∈ xs, normB x = true) : normB (joinP 38 xs) = true := by
  induction xs with
  | nil => exact normB_nil
  | cons x r ih =>
    cases r with
    | nil => exact h x (by simp)
    | cons y r =>
      rw [joinP_cons 38 x (by simp), normB_append x _ (h x (by simp)), normB_else _ (by decide), ih (fun z hz => h z (by simp [hz]))]; decide

/-! ### the one form of a link -/

def utmB (x : List UInt8) : Bool := ([117, 116, 109, 95] : List UInt8).isPrefixOf x
def cqueryL (q : List UInt8) : List UInt8 := joinP 38 ((splitP 38 (normL q)).filter (fun x => !utmB x))
def cpathL (p : List UInt8) : List UInt8 := if (dotsL (normL p)).isEmpty then [47] else dotsL (normL p)
def cportL (s : List UInt8) (n : Nat) : Nat := if s = [104, 116, 116, 112] ∧ n = 80 ∨ s = [104, 116, 116, 112, 115] ∧ n = 443 then 0 else n
def canonL (l : Lk) : Lk := ⟨smallL l.scheme, smallL l.host, cportL (smallL l.scheme) l.port, cpathL l.path, cqueryL l.query, [], l.hasQ && !(cqueryL l.query).isEmpty, false⟩
theorem small_twice (l : List UInt8) : smallL (smallL l) = smallL l := by
  unfold smallL
  rw [List.map_map]
  apply List.map_congr_left
  intro c _
  have := u8_all (p := fun c => lowB (lowB c) == lowB c) (by decide +kernel) c
  exact eq_of_beq this
theorem join_mem (xs : List (List UInt8)) (y : UInt8) (h : y ∈ joinP 38 xs) : y = 38 ∨ ∃ x ∈ xs, y ∈ x := by
  induction xs with
  | nil => cases h
  | cons x r ih =>
    cases r with
    | nil => exact .inr ⟨x, by simp, h⟩
    | cons z r =>
      rw [joinP_cons 38 x (by simp), List.mem_append, List.mem_cons] at h
      rcases h with h | h | h
      · exact .inr ⟨x, by simp, h⟩
      · exact .inl h
      · rcases ih h with h | ⟨u, hu, hy⟩
        · exact .inl h
        · exact .inr ⟨u, by simp [hu], hy⟩
theorem pct1_mem (c y : UInt8) (h : y ∈ pct1 c) : y = 37 ∨ stays y = true ∨ hexB y = true := by
  unfold pct1 at h
  split at h
  · rename_i hs; rw [List.mem_singleton] at h; exact .inr (.inl (h ▸ hs))
  · rename_i hs
    obtain ⟨h1, h2, _⟩ := pct_facts (by simpa using hs)
    simp at h
    rcases h with h | h | h
    · exact .inl h
    · exact .inr (.inr (h ▸ h1))
    · exact .inr (.inr (h ▸ h2))
theorem norm_mem (l : List UInt8) (y : UInt8) (hy : y = 35 ∨ y = 63) : y ∈ normL l → y ∈ l := by
  refine list_ind (P := fun l => y ∈ normL l → y ∈ l) (fun h => by rw [normL_nil] at h; exact h) ?_ ?_ l
  · intro r he ih h
    rw [normL_esc he, List.mem_append] at h
    rcases h with h | h
    · exfalso
      rcases pct1_mem _ _ h with h | h | h
      · rcases hy with e | e <;> (rw [e] at h; revert h; decide)
      · have := stays_facts h; rcases hy with e | e <;> simp [e] at this
      · have := hex_facts h; rcases hy with e | e <;> simp [e] at this
    · exact List.mem_cons_of_mem _ (List.mem_of_mem_drop (ih h))
  · intro c r hc ih h
    rw [normL_else hc, List.mem_cons] at h
    rcases h with h | h
    · simp [h]
    · simp [ih h]
theorem norm_head (p : List UInt8) (h : pathB p = true) : pathB (normL p) = true ∧ (normL p = [] ↔ p = []) := by
  cases p with
  | nil => rw [normL_nil]; exact ⟨rfl, by simp⟩
  | cons c r =>
    have hc : c = 47 := by simpa [pathB] using h
    subst hc
    rw [normL_else (by simp)]
    exact ⟨by simp [pathB], by simp⟩
theorem cpath_facts (p : List UInt8) (h : pathB p = true) (ht : tailOk p = true) (h1 : 63 ∉ p) (h2 : 35 ∉ p) :
    pathB (cpathL p) = true ∧ normB (cpathL p) = true ∧ 63 ∉ cpathL p ∧ 35 ∉ cpathL p ∧ dotsL (cpathL p) = cpathL p ∧ cpathL p ≠ [] := by
  have hn := normB_norm p ht
  have hd := dots_norm _ hn
  have hp := (norm_head p h).1
  unfold cpathL
  split
  · exact ⟨rfl, by decide +kernel, by decide, by decide, by decide +kernel, by decide⟩
  · rename_i hne
    refine ⟨?_, hd, ?_, ?_, dots_twice _, by simpa using hne⟩
    · have hh : (normL p).head? = some 47 := by
        unfold pathB at hp
        rw [Bool.or_eq_true] at hp
        rcases hp with hp | hp
        · rw [List.isEmpty_iff] at hp
          rw [hp] at hne
          exact absurd (by decide) hne
        · simpa using hp
      unfold pathB; rw [dots_head, hh]; simp
    · intro hm
      rcases dots_mem _ _ hm with e | e
      · revert e; decide
      · exact h1 (norm_mem p 63 (.inr rfl) e)
    · intro hm
      rcases dots_mem _ _ hm with e | e
      · revert e; decide
      · exact h2 (norm_mem p 35 (.inl rfl) e)
theorem cpath_twice (p : List UInt8) (h : pathB p = true) (ht : tailOk p = true) (h1 : 63 ∉ p) (h2 : 35 ∉ p) : cpathL (cpathL p) = cpathL p := by
  obtain ⟨_, b, _, _, e, f⟩ := cpath_facts p h ht h1 h2
  generalize cpathL p = q at *
  unfold cpathL
  rw [norm_of q b, e, if_neg (by simpa using f)]
theorem cquery_facts (q : List UInt8) (ht : tailOk q = true) (h2 : 35 ∉ q) : normB (cqueryL q) = true ∧ 35 ∉ cqueryL q ∧ cqueryL (cqueryL q) = cqueryL q := by
  have hn := normB_norm q ht
  have hparts : ∀ x ∈ (splitP 38 (normL q)).filter (fun x => !utmB x), normB x = true ∧ 38 ∉ x ∧ utmB x = false := by
    intro x hx
    rw [List.mem_filter] at hx
    exact ⟨splitP_norm 38 (by decide) (by decide) _ hn x hx.1, splitP_parts _ _ x hx.1, by simpa using hx.2⟩
  have hj := join_norm _ (fun x hx => (hparts x hx).1)
  refine ⟨hj, ?_, ?_⟩
  · intro hm
    rcases join_mem _ _ hm with e | ⟨x, hx, hy⟩
    · revert e; decide
    · rw [List.mem_filter] at hx
      exact h2 (norm_mem q 35 (.inl rfl) (splitP_mem 38 _ x hx.1 35 hy))
  · show cqueryL (joinP 38 _) = joinP 38 _
    generalize (splitP 38 (normL q)).filter (fun x => !utmB x) = xs at *
    unfold cqueryL
    rw [norm_of _ hj]
    by_cases h0 : xs = []
    · subst h0; decide +kernel
    · rw [splitP_join 38 xs h0 (fun x hx => (hparts x hx).2.1), List.filter_eq_self.2 (fun x hx => by simp [(hparts x hx).2.2])]
theorem host_small (l : List UInt8) (h : l.all hostB = true) : (smallL l).all hostB = true := by
  unfold smallL
  rw [List.all_map, List.all_eq_true] at *
  intro c hc
  have := u8_all (p := fun c => !hostB c || hostB (lowB c)) (by decide +kernel) c
  simp [h c hc] at this
  exact this
theorem wf_parts {p : Lk} (h : WF p) : tailOk p.path = true ∧ tailOk p.query = true ∧ tailOk p.frag = true := by
  have ht := h.tail
  unfold restL at ht
  have key : ∀ (a : List UInt8) (b : Bool) (c : UInt8) (l r : List UInt8), hexB c = false → (∀ x t, r = x :: t → hexB x = false) → (b = false → l = []) → tailOk (a ++ markL b c l ++ r) = true → tailOk a = true ∧ tailOk l = true ∧ tailOk r = true := by
    intro a b c l r hc hr hl h
    have h3 : ∀ u, tailOk (u ++ r) = true → tailOk u = true ∧ tailOk r = true := by
      intro u hu
      cases r with
      | nil => rw [List.append_nil] at hu; exact ⟨hu, rfl⟩
      | cons x t => rw [tailOk_mid u t x (hr x t rfl), Bool.and_eq_true] at hu; exact hu
    obtain ⟨h1, h2⟩ := h3 _ h
    cases b with
    | true =>
      rw [show markL true c l = c :: l from rfl, tailOk_mid a l c hc, Bool.and_eq_true] at h1
      exact ⟨h1.1, tailOk_tail h1.2, h2⟩
    | false =>
      rw [show markL false c l = [] from rfl, List.append_nil] at h1
      exact ⟨h1, by rw [hl rfl]; rfl, h2⟩
  obtain ⟨a, b, c⟩ := key p.path p.hasQ 63 p.query (markL p.hasF 35 p.frag) (by decide) (fun x t e => by rw [mark_head e]; decide) h.noQ ht
  refine ⟨a, b, ?_⟩
  cases hf : p.hasF with
  | true => rw [hf] at c; exact tailOk_tail c
  | false => rw [h.noF hf]; rfl
theorem wf_canon {p : Lk} (h : WF p) : WF (canonL p) := by
  obtain ⟨t1, t2, _⟩ := wf_parts h
  obtain ⟨a1, a2, a3, a4, _, _⟩ := cpath_facts p.path h.path t1 h.pathQ h.pathF
  obtain ⟨b1, b2, _⟩ := cquery_facts p.query t2 h.quF
  refine ⟨?_, host_small _ h.host, ?_, ?_, ?_, a1, ?_, a3, a4, b2, by simp [canonL], ?_, fun _ => rfl⟩
  · show schB (smallL p.scheme) = true
    have := h.sch
    unfold schB at this ⊢
    rw [small_twice]; exact this
  · show 1 ≤ (smallL p.host).length; unfold smallL; rw [List.length_map]; exact h.host1
  · show (smallL p.host).length ≤ 253; unfold smallL; rw [List.length_map]; exact h.host2
  · show cportL _ _ ≤ _; unfold cportL; split
    · omega
    · exact h.port
  · show tailOk (cpathL p.path ++ markL (p.hasQ && !(cqueryL p.query).isEmpty) 63 (cqueryL p.query) ++ markL false 35 []) = true
    rw [show markL false 35 [] = [] from rfl, List.append_nil]
    unfold markL
    split
    · rw [tailOk_mid _ _ _ (by decide), norm_tail _ a2, tailOk_cons (by decide) (by decide) (norm_tail _ b1)]; rfl
    · rw [List.append_nil]; exact norm_tail _ a2
  · intro e
    show cqueryL p.query = []
    have e' : (p.hasQ && !(cqueryL p.query).isEmpty) = false := e
    cases hq : p.hasQ with
    | false =>
      rw [h.noQ hq]; decide +kernel
    | true => rw [hq] at e'; simpa using e'
theorem canon_twice {p : Lk} (h : WF p) : canonL (canonL p) = canonL p := by
  obtain ⟨t1, t2, _⟩ := wf_parts h
  have e1 := cpath_twice p.path h.path t1 h.pathQ h.pathF
  have e2 := (cquery_facts p.query t2 h.quF).2.2
  show (⟨smallL (smallL p.scheme), smallL (smallL p.host), cportL (smallL (smallL p.scheme)) (cportL (smallL p.scheme) p.port), cpathL (cpathL p.path), cqueryL (cqueryL p.query), [], (p.hasQ && !(cqueryL p.query).isEmpty) && !(cqueryL (cqueryL p.query)).isEmpty, false⟩ : Lk) = _
  rw [e1, e2, small_twice, small_twice]
  have e3 : cportL (smallL p.scheme) (cportL (smallL p.scheme) p.port) = cportL (smallL p.scheme) p.port := by
    generalize smallL p.scheme = s
    unfold cportL
    repeat' split
    all_goals first | rfl | omega | skip
  rw [e3]
  unfold canonL
  congr 1
  cases p.hasQ <;> cases (cqueryL p.query).isEmpty <;> rfl
end Go.Proofs.YtlgggibdgfdmhaaGreatDoor
