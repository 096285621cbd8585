/-
  The walks of the document's unit and Unjson of layer 2. Conditions: texts of at most a million bytes.
-/
import Derived.Test.YtchgelfomnbpaaaDoorZ43
import Derived.Test.YtchgelfomnbpaaaDoorZ18
namespace Go.Proofs.YtchgelfomnbpaaaDoor
open Go.RowKit
open Go.Lib

theorem unit_parts (l : List UInt8) (h : ([92, 117] : List UInt8).isPrefixOf l = true) : l[0]? = some 92 ∧ l[1]? = some 117 ∧ 2 ≤ l.length := by
  match l, h with
  | [], h => simp [List.isPrefixOf] at h
  | [a], h => simp [List.isPrefixOf] at h
  | a :: b :: r, h =>
    simp [List.isPrefixOf] at h
    obtain ⟨rfl, rfl⟩ := h
    exact ⟨rfl, rfl, by simp⟩
theorem unit_not (l : List UInt8) (h : ([92, 117] : List UInt8).isPrefixOf l = false) : unitQ l = -1 := by
  unfold unitQ
  rw [if_pos]
  match l, h with
  | [], _ => exact .inl (by simp)
  | [a], _ => exact .inl (by simp)
  | a :: b :: r, h =>
    right
    by_cases ha : a = 92
    · right
      intro hb
      simp at hb
      rw [ha, hb] at h
      simp [List.isPrefixOf] at h
    · left
      simpa using ha
theorem unit_digs (l : List UInt8) (h : ([92, 117] : List UInt8).isPrefixOf l = true) : ((digs 16 4 (l.drop 2)).length < 4 ∧ unitQ l = -1) ∨ ((digs 16 4 (l.drop 2)).length = 4 ∧ unitQ l = valD 16 (digs 16 4 (l.drop 2))) := by
  obtain ⟨h0, h1, h2⟩ := unit_parts l h
  have hl := digs_length 16 4 (l.drop 2)
  have hp := digs_pre 16 4 (l.drop 2)
  have ha := digs_all 16 4 (l.drop 2)
  rw [List.length_drop] at hl
  by_cases h4 : (digs 16 4 (l.drop 2)).length = 4
  · refine .inr ⟨h4, ?_⟩
    unfold unitQ
    rw [if_neg]
    · rw [h4] at hp
      rw [← hp]
      exact numP_good (fun e => by rw [e] at h4; simp at h4) (by omega) (List.all_eq_true.2 ha)
    · rw [h0, h1]; simp; omega
  · refine .inl ⟨by omega, ?_⟩
    unfold unitQ
    by_cases h6 : l.length < 6
    · rw [if_pos (.inl h6)]
    · rw [if_neg (by rw [h0, h1]; simp; omega)]
      apply numP_neg
      refine .inr (.inr ?_)
      rw [Bool.eq_false_iff]
      intro hall
      apply h4
      have : digs 16 4 (l.drop 2) = (l.drop 2).take 4 := by
        unfold digs
        have := List.takeWhile_append_of_pos (p := isD 16) (l₁ := (l.drop 2).take 4) (l₂ := []) (fun c hc => List.all_eq_true.1 hall c hc)
        rw [List.append_nil, List.takeWhile_nil, List.append_nil] at this
        exact this
      rw [this, List.length_take, List.length_drop]; omega
set_option maxRecDepth 100000 in
theorem runit_any (s : ByteArray) (w : World) (hs : s.size ≤ 2000000) : Calls Tryd.prog 75 #[.string s] w fun e w' => e = .returned (.int .i64 (unitQ s.data.toList)) ∧ w = w' := by
  have hc := starts_any s ⟨#[92, 117]⟩ w
  rw [show (⟨#[92, 117]⟩ : ByteArray).data.toList = [92, 117] from rfl] at hc
  cases hp : ([92, 117] : List UInt8).isPrefixOf s.data.toList with
  | false =>
    rw [hp] at hc
    have HV := Lib.hid (unit_not _ hp)
    clear hp
    go_enter Tryd.func75, Tryd.ntmps75
    go_wp2_with fail
    refine hc.mono ?_
    clear hc
    rintro e w' ⟨rfl, rfl⟩
    go_wp2
    go_ret
    exact ⟨ret_int (by rw [HV.out]), rfl⟩
  | true =>
    rw [hp] at hc
    have h2 := (unit_parts _ hp).2.2
    rw [← size_list] at h2
    have hn := rnumber16_any (s.extract 2 s.size) 4 w (by simp; omega) (by omega)
    unfold NumOut at hn
    rw [drop_extract] at hn
    have hd := unit_digs _ hp
    have hv := valD_len 16 4 (s.data.toList.drop 2) (by omega) (by omega) (by omega)
    clear hp
    generalize valD 16 (digs 16 4 (s.data.toList.drop 2)) = v at *
    generalize (digs 16 4 (s.data.toList.drop 2)).length = n at *
    rcases hd with ⟨d1, d2⟩ | ⟨d1, d2⟩
    · have HV := Lib.hid d2
      clear d2
      go_enter Tryd.func75, Tryd.ntmps75
      go_wp2_with fail
      refine hc.mono ?_
      clear hc
      rintro e w' ⟨rfl, rfl⟩
      go_wp2_with fail
      refine hn.mono ?_
      clear hn
      rintro e w' ⟨rfl, rfl⟩
      go_wp2
      all_goals first | (exfalso; omega) | (go_ret; exact ⟨ret_int (by rw [HV.out]), rfl⟩)
    · have HV := Lib.hid d2
      have d3 : 4 ≤ n := by omega
      clear d2 d1
      go_enter Tryd.func75, Tryd.ntmps75
      go_wp2_with fail
      refine hc.mono ?_
      clear hc
      rintro e w' ⟨rfl, rfl⟩
      go_wp2_with fail
      refine hn.mono ?_
      clear hn
      rintro e w' ⟨rfl, rfl⟩
      go_wp2
      all_goals first | (exfalso; omega) | (go_ret; exact ⟨ret_int (by rw [HV.out]), rfl⟩)
end Go.Proofs.YtchgelfomnbpaaaDoor
