/-
  A calm disk: an append of a byte with its sync, the names that its directories list, one behind another. No conditions.
-/
import Derived.Test.YtbodkjifpmencaaVfN
namespace Go.Proofs.Ytbodkjifpmencaa

theorem total_mem {q : Q} {b : QB} (h : b ∈ q.bodies) : b.now.length ≤ totalB q := by
  unfold totalB
  generalize q.bodies = l at *
  induction l with
  | nil => cases h
  | cons x l ih =>
    rw [List.map_cons, List.sum_cons]
    rcases List.mem_cons.1 h with rfl | h
    · omega
    · have := ih h; omega
theorem look_of_key {l : Nm} {p : Bs} (h : p ∈ l.map (·.1)) : ∃ k, look l p = some k := by
  cases hl : look l p with
  | some k => exact ⟨k, rfl⟩
  | none =>
    exfalso
    obtain ⟨x, hx, rfl⟩ := List.mem_map.1 h
    unfold look at hl
    cases hf : l.find? (fun y => decide (y.1 = x.1)) with
    | none => exact absurd (List.find?_eq_none.1 hf x hx) (by simp)
    | some y => rw [hf] at hl; cases hl
theorem Still.step {q : Q} (H : Still q 600000) (ht : totalB q + 1 ≤ 590000) {p : Bs} (hp : p ∈ q.names.map (·.1)) :
    ∃ qa qb, appendQ q p [120] = (0, qa) ∧ Small 600002 qa ∧ syncQ qa p = (0, qb) ∧ Still qb 600000 ∧ qb.names = q.names ∧ totalB qb ≤ totalB q + 1 := by
  obtain ⟨k, hk⟩ := look_of_key hp
  have hr : rightL p = true := H.right _ (look_mem hk)
  have h1 := calm_append H.calm hr hk (H.room1 (by omega))
  have h2 := calm_sync H.calm hr hk [120]
  have s1 := H.small.append p [120]
  have t1 := total_append q p [120]
  rw [h1] at s1 t1
  have s2 := s1.sync p
  have t2 := total_sync (extendQ q k [120]) p
  rw [h2] at s2 t2
  have ht2 : totalB ({ q with bodies := (extendQ q k [120]).bodies.set k ⟨(qbody (extendQ q k [120]) k).now, (qbody (extendQ q k [120]) k).now.length⟩ } : Q) ≤ totalB q + 1 := by
    have h : ([120] : Bs).length = 1 := rfl
    dsimp only at t1 t2
    omega
  refine ⟨_, _, h1, s1.mono (by decide), h2, ⟨calm_after H.calm _, ?_, H.nodup, H.right, H.room⟩, rfl, ht2⟩
  have hnb : ((extendQ q k [120]).bodies.set k ⟨(qbody (extendQ q k [120]) k).now, (qbody (extendQ q k [120]) k).now.length⟩).length = q.bodies.length := by
    unfold extendQ
    split <;> simp
  exact ⟨by show List.length _ ≤ _; rw [hnb]; exact H.small.nb, H.small.nn, H.small.nk, H.small.nc, H.small.nl, fun b hb => ⟨by have := total_mem hb; omega, (s2.now b hb).2⟩, s2.kn, s2.kk, s2.kc, s2.kl, s2.r0, s2.r1, s2.a0, s2.a1, s2.dn, s2.dk, s2.dc, s2.dl⟩
/-- Behind a crash of a calm disk. -/
theorem Still.again {q : Q} {M : Nat} (H : Still q M) (ks : List Int) : Still (crashQ q ks) M ∧ (crashQ q ks).names = q.names ∧ (crashQ q ks).bodies = q.bodies := by
  rw [crash_calm H.calm ks]
  refine ⟨⟨⟨H.calm.changes, H.calm.loose, H.calm.kept, H.calm.told⟩, ?_, H.nodup, H.right, H.room⟩, rfl, rfl⟩
  have h := H.small
  exact ⟨h.nb, h.nn, h.nk, h.nc, h.nl, h.now, h.kn, h.kk, h.kc, h.kl, h.r0, h.r1, by show (-9223372036854775808 : Int) ≤ 0; decide, by show (0 : Int) ≤ 9223372036854775807; decide, h.dn, h.dk, h.dc, h.dl⟩
/-! ### What is listed -/
def textQ (q : Q) (p : Bs) : Bs := (readQ q p).getD []
theorem listQ_same {q q' : Q} (h : q'.names = q.names) (d : Bs) : listQ q' d = listQ q d := by unfold listQ; rw [h]
theorem textQ_same {q q' : Q} (h : q'.names = q.names) (hb : q'.bodies = q.bodies) (p : Bs) : textQ q' p = textQ q p := by unfold textQ readQ qbody; rw [h, hb]
theorem listQ_mem {q : Q} {d p : Bs} (h : p ∈ listQ q d) : p ∈ q.names.map (·.1) := by
  unfold listQ at h
  rw [List.mem_mergeSort] at h
  exact (List.mem_filter.1 h).1
theorem listQ_len (q : Q) (d : Bs) : (listQ q d).length ≤ q.names.length := by
  unfold listQ
  rw [List.length_mergeSort]
  exact Nat.le_trans (List.length_filter_le _ _) (by simp)
theorem listQ_read {q : Q} {d p : Bs} (h : p ∈ listQ q d) : readQ q p = some (textQ q p) := by
  obtain ⟨k, hk⟩ := look_of_key (listQ_mem h)
  unfold textQ readQ
  rw [hk]
  rfl
theorem text_len {q : Q} {M : Nat} (H : Small M q) {p : Bs} (h : p ∈ q.names.map (·.1)) : (textQ q p).length ≤ M := by
  obtain ⟨k, hk⟩ := look_of_key h
  have hb := (H.kn _ (look_mem hk)).2
  unfold textQ readQ
  rw [hk]
  show (qbody q k).now.length ≤ M
  unfold qbody
  have hb' : k < q.bodies.length := hb
  rw [List.getD_eq_getElem?_getD, List.getElem?_eq_getElem hb', Option.getD_some]
  exact (H.now _ (List.getElem_mem hb')).1
def dirs4 : List Bs := [[], [100], [101], [122]]
/-- The lists of the first k directories, one behind another. -/
def gathN (q : Q) (k : Nat) : List Bs := (dirs4.take k).flatMap (listQ q)
theorem gath_zero (q : Q) : gathN q 0 = [] := rfl
theorem gath_succ (q : Q) (k : Nat) (h : k < 4) : gathN q (k + 1) = gathN q k ++ listQ q (dirs4.getD k []) := by
  unfold gathN
  have hk : k < dirs4.length := h
  rw [List.take_succ_eq_append_getElem hk, List.flatMap_append, List.getD_eq_getElem?_getD, List.getElem?_eq_getElem hk, Option.getD_some]
  simp
theorem gath_len (q : Q) : ∀ k, k ≤ 4 → (gathN q k).length ≤ k * q.names.length
  | 0, _ => by simp [gath_zero]
  | k + 1, h => by
    rw [gath_succ q k (by omega), List.length_append]
    have h1 := gath_len q k (by omega)
    have h2 := listQ_len q (dirs4.getD k [])
    have h3 : (k + 1) * q.names.length = k * q.names.length + q.names.length := by rw [Nat.add_mul, Nat.one_mul]
    omega
theorem gath_mem {q : Q} {p : Bs} {k : Nat} (h : p ∈ gathN q k) : p ∈ q.names.map (·.1) := by
  obtain ⟨d, _, hd⟩ := List.mem_flatMap.1 h
  exact listQ_mem hd
theorem gath_same {q q' : Q} (h : q'.names = q.names) (k : Nat) : gathN q' k = gathN q k := by
  unfold gathN
  congr 1
  exact funext fun d => listQ_same h d
/-- The place, in the whole, of what the k-th directory lists. -/
theorem gath_pre (q : Q) : ∀ m k, k + m = 4 → ∃ r, gathN q 4 = gathN q k ++ r
  | 0, k, h => ⟨[], by obtain rfl : k = 4 := by omega
                       simp⟩
  | m + 1, k, h => by
    obtain ⟨r, hr⟩ := gath_pre q m (k + 1) (by omega)
    exact ⟨listQ q (dirs4.getD k []) ++ r, by rw [hr, gath_succ q k (by omega), List.append_assoc]⟩
theorem gath_at (q : Q) (k j : Nat) (hk : k < 4) (hj : j < (listQ q (dirs4.getD k [])).length) : (gathN q 4)[(gathN q k).length + j]? = some (listQ q (dirs4.getD k []))[j] := by
  obtain ⟨r, hr⟩ := gath_pre q (4 - (k + 1)) (k + 1) (by omega)
  rw [hr, gath_succ q k hk, List.append_assoc, List.getElem?_append_right (by omega), Nat.add_sub_cancel_left, List.getElem?_append_left hj, List.getElem?_eq_getElem hj]
theorem gath_lt (q : Q) (k j : Nat) (hk : k < 4) (hj : j < (listQ q (dirs4.getD k [])).length) : (gathN q k).length + j < (gathN q 4).length := by
  have h := gath_at q k j hk hj
  exact (List.getElem?_eq_some_iff.1 h).1
end Go.Proofs.Ytbodkjifpmencaa
