/-
  Plain facts: the reader answers as the document's Mail. No conditions.
-/
import Derived.Test.YtocmppafmaehcaaDoorDateW
namespace Go.Proofs.YtocmppafmaehcaaDoor

/-! Words. -/
def joinS : List (List UInt8) → List UInt8
  | [] => []
  | [w] => w
  | w :: v :: ws => w ++ 32 :: joinS (v :: ws)
theorem words_ne : ∀ l : List UInt8, wordsP l ≠ []
  | [] => by simp [wordsP]
  | c :: r => by
    unfold wordsP
    split
    · simp
    · split
      · simp
      · simp
theorem words_spec : ∀ l : List UInt8, l = joinS (wordsP l) ∧ ∀ w ∈ wordsP l, (32 : UInt8) ∉ w
  | [] => by
    refine ⟨rfl, fun w hw => ?_⟩
    simp [wordsP] at hw
    rw [hw]; simp
  | c :: r => by
    obtain ⟨ih1, ih2⟩ := words_spec r
    have hne := words_ne r
    unfold wordsP
    by_cases hc : c = 32
    · rw [if_pos hc]
      cases hw : wordsP r with
      | nil => exact absurd hw hne
      | cons w ws =>
        rw [hw] at ih1 ih2
        refine ⟨?_, fun x hx => ?_⟩
        · show c :: r = [] ++ 32 :: joinS (w :: ws)
          rw [← ih1, hc]; rfl
        · rcases List.mem_cons.1 hx with rfl | hx
          · simp
          · exact ih2 x hx
    · rw [if_neg hc]
      cases hw : wordsP r with
      | nil => exact absurd hw hne
      | cons w ws =>
        rw [hw] at ih1 ih2
        refine ⟨?_, fun x hx => ?_⟩
        · show c :: r = joinS ((c :: w) :: ws)
          cases ws with
          | nil => show c :: r = c :: w; rw [ih1]; rfl
          | cons v vs => show c :: r = (c :: w) ++ 32 :: joinS (v :: vs); rw [ih1]; rfl
        · rcases List.mem_cons.1 hx with rfl | hx
          · intro hm
            rcases List.mem_cons.1 hm with h | h
            · exact hc h.symm
            · exact ih2 w List.mem_cons_self h
          · exact ih2 x (List.mem_cons_of_mem _ hx)
theorem place_inv {w : List UInt8} : ∀ {ws : List (List UInt8)}, 0 ≤ placeP w ws → ∃ k : Nat, k < ws.length ∧ placeP w ws = k ∧ ws.getD k [] = w
  | [], h => by simp [placeP] at h
  | x :: ws, h => by
    unfold placeP at h ⊢
    by_cases hx : x = w
    · rw [if_pos hx]
      exact ⟨0, by simp, rfl, hx⟩
    · rw [if_neg hx] at h ⊢
      by_cases hp : placeP w ws < 0
      · rw [if_pos hp] at h; omega
      · rw [if_neg hp]
        obtain ⟨k, h1, h2, h3⟩ := place_inv (w := w) (ws := ws) (by omega)
        exact ⟨k + 1, by simp; omega, by omega, by simpa using h3⟩
theorem place_ge (w : List UInt8) : ∀ ws : List (List UInt8), -1 ≤ placeP w ws
  | [] => by simp [placeP]
  | x :: ws => by
    have := place_ge w ws
    unfold placeP
    split
    · omega
    · split <;> omega

/-! Zones. -/
theorem off_no_blank {z colon : List UInt8} {off : Int} (hc : colon = [58] ∨ colon = []) (h : offD z colon off) : (32 : UInt8) ∉ z := by
  obtain ⟨sg, H, M, hsg, dH, dM, rfl, _⟩ := h
  obtain ⟨a, b, rfl, ha, hb, _⟩ := dg2 dH
  obtain ⟨c, d, rfl, hcc, hd, _⟩ := dg2 dM
  have hn : ∀ x : UInt8, isDg x = true → x ≠ 32 := by
    rintro x hx rfl
    simp [isDg] at hx
  intro hm
  rcases hc with rfl | rfl
  · simp only [List.cons_append, List.nil_append, List.mem_cons, List.not_mem_nil, or_false] at hm
    rcases hm with h | h | h | h | h | h
    · rcases hsg with rfl | rfl <;> cases h
    · exact hn _ ha h.symm
    · exact hn _ hb h.symm
    · cases h
    · exact hn _ hcc h.symm
    · exact hn _ hd h.symm
  · simp only [List.cons_append, List.nil_append, List.mem_cons, List.not_mem_nil, or_false] at hm
    rcases hm with h | h | h | h | h
    · rcases hsg with rfl | rfl <;> cases h
    · exact hn _ ha h.symm
    · exact hn _ hb h.symm
    · exact hn _ hcc h.symm
    · exact hn _ hd h.symm
theorem zone_names : ∀ k : Nat, k < 11 → zoneM (zonesN.getD k []) = some (mzF (zonesN.getD k [])).1 ∧ (mzF (zonesN.getD k [])).2 = ([], true) ∧ (32 : UInt8) ∉ zonesN.getD k []
  | 0, _ => by decide
  | 1, _ => by decide
  | 2, _ => by decide
  | 3, _ => by decide
  | 4, _ => by decide
  | 5, _ => by decide
  | 6, _ => by decide
  | 7, _ => by decide
  | 8, _ => by decide
  | 9, _ => by decide
  | 10, _ => by decide
theorem zone_letters (x : List UInt8) (hx : x ∈ zonesN) : ∃ c t, x = c :: t ∧ c ≠ 43 ∧ c ≠ 45 := by
  simp only [zonesN, List.mem_cons, List.not_mem_nil, or_false] at hx
  rcases hx with rfl | rfl | rfl | rfl | rfl | rfl | rfl | rfl | rfl | rfl | rfl <;> exact ⟨_, _, rfl, by decide, by decide⟩
theorem off_no_name {z : List UInt8} {off : Int} (h : offD z [] off) : ¬ 0 ≤ placeP z zonesN := by
  intro hp
  obtain ⟨k, hk, _, e⟩ := place_inv hp
  have hm : zonesN.getD k [] ∈ zonesN := by
    rw [List.getD_eq_getElem?_getD, List.getElem?_eq_getElem hk]
    exact List.getElem_mem hk
  obtain ⟨c, t, hx, n1, n2⟩ := zone_letters _ hm
  obtain ⟨sg, r, hsg, hz⟩ := offD_head h
  rw [← e, hx] at hz
  have := (List.cons.inj hz).1
  rcases hsg with rfl | rfl
  · exact n1 this
  · exact n2 this
/-- A list of zones of which each is a zone's name. -/
theorem mz_hit {ws : List (List UInt8)} {z : List UInt8} (hw : ∀ x ∈ ws, x ∈ zonesN) (h : tkB ws z = true) (hl : tkL ws z = []) : ∃ k : Nat, k < 11 ∧ z = zonesN.getD k [] := by
  obtain ⟨k, hk, e⟩ := tkB_inv h
  rw [hl, List.append_nil] at e
  have hm : ws.getD k [] ∈ ws := by
    rw [List.getD_eq_getElem?_getD, List.getElem?_eq_getElem hk]
    exact List.getElem_mem hk
  have h2 := hw _ hm
  rw [← e] at h2
  obtain ⟨j, hj, e2⟩ := List.getElem_of_mem h2
  exact ⟨j, hj, by rw [List.getD_eq_getElem?_getD, List.getElem?_eq_getElem hj]; exact e2.symm⟩
theorem mz_iff (z : List UInt8) (off : Int) : mzF z = (off, [], true) ↔ zoneM z = some off := by
  by_cases hn : ∃ k : Nat, k < 11 ∧ z = zonesN.getD k []
  · obtain ⟨k, hk, rfl⟩ := hn
    obtain ⟨h1, h2, _⟩ := zone_names k hk
    rw [h1]
    constructor
    · intro h; rw [h]
    · intro h
      have e := Option.some.inj h
      rw [← e, ← h2]
  · have hz : ¬ 0 ≤ placeP z zonesN := by
      intro hp
      obtain ⟨k, hk, _, e⟩ := place_inv hp
      exact hn ⟨k, hk, e.symm⟩
    unfold zoneM
    rw [if_neg hz, offP_iff z [] (.inr rfl), ← offF_iff]
    have hmiss : ∀ ws : List (List UInt8), (∀ x ∈ ws, x ∈ zonesN) → tkB ws z = true → tkL ws z ≠ [] := fun ws hw h hl => hn (mz_hit hw h hl)
    have hlet : ∀ ws : List (List UInt8), (∀ x ∈ ws, x ∈ zonesN) → offD z [] off → tkB ws z = false := fun ws hw h => tk_off h (fun x hx => zone_letters x (hw x hx))
    have w0 : ∀ x ∈ zGMT, x ∈ zonesN := by decide
    have w1 : ∀ x ∈ zEDT, x ∈ zonesN := by decide
    have w2 : ∀ x ∈ zEST, x ∈ zonesN := by decide
    have w3 : ∀ x ∈ zCST, x ∈ zonesN := by decide
    have w4 : ∀ x ∈ zMST, x ∈ zonesN := by decide
    have w5 : ∀ x ∈ zPST, x ∈ zonesN := by decide
    constructor
    · intro h
      unfold mzF at h
      cases k0 : tkB zGMT z with
      | true => rw [if_pos k0, Prod.mk.injEq, Prod.mk.injEq] at h; exact absurd h.2.1 (hmiss _ w0 k0)
      | false =>
      rw [if_neg (by simp [k0])] at h
      cases k1 : tkB zEDT z with
      | true => rw [if_pos k1, Prod.mk.injEq, Prod.mk.injEq] at h; exact absurd h.2.1 (hmiss _ w1 k1)
      | false =>
      rw [if_neg (by simp [k1])] at h
      cases k2 : tkB zEST z with
      | true => rw [if_pos k2, Prod.mk.injEq, Prod.mk.injEq] at h; exact absurd h.2.1 (hmiss _ w2 k2)
      | false =>
      rw [if_neg (by simp [k2])] at h
      cases k3 : tkB zCST z with
      | true => rw [if_pos k3, Prod.mk.injEq, Prod.mk.injEq] at h; exact absurd h.2.1 (hmiss _ w3 k3)
      | false =>
      rw [if_neg (by simp [k3])] at h
      cases k4 : tkB zMST z with
      | true => rw [if_pos k4, Prod.mk.injEq, Prod.mk.injEq] at h; exact absurd h.2.1 (hmiss _ w4 k4)
      | false =>
      rw [if_neg (by simp [k4])] at h
      cases k5 : tkB zPST z with
      | true => rw [if_pos k5, Prod.mk.injEq, Prod.mk.injEq] at h; exact absurd h.2.1 (hmiss _ w5 k5)
      | false =>
      rw [if_neg (by simp [k5])] at h
      exact h
    · intro h
      have hd := (offF_iff _ _ _).1 h
      unfold mzF
      rw [if_neg (by simp [hlet _ w0 hd]), if_neg (by simp [hlet _ w1 hd]), if_neg (by simp [hlet _ w2 hd]), if_neg (by simp [hlet _ w3 hd]), if_neg (by simp [hlet _ w4 hd]), if_neg (by simp [hlet _ w5 hd])]
      exact h
theorem zoneM_blank {z : List UInt8} {off : Int} (h : zoneM z = some off) : (32 : UInt8) ∉ z := by
  unfold zoneM at h
  by_cases hp : 0 ≤ placeP z zonesN
  · obtain ⟨k, hk, _, e⟩ := place_inv hp
    rw [← e]
    exact (zone_names k hk).2.2
  · rw [if_neg hp, offP_iff z [] (.inr rfl)] at h
    exact off_no_blank (.inr rfl) h
end Go.Proofs.YtocmppafmaehcaaDoor
