/-
  Plain facts: what is squeezed is squeezed already, what is cut is cut already; and the calls of layer 1 at texts that were made of code points. Conditions: code points all, at most 100000 of them.
-/
import Derived.Test.YtfgpilkapipjbaaDoorFirst
namespace Go.Proofs.YtfgpilkapipjbaaDoor
open Go.RowKit
open Go.Lib

theorem sq_inv (l : List Int) : ∀ st : List Int × Bool, sqOf st.1 = (st.1, false) → sqOf (l.foldl sqStep st).1 = ((l.foldl sqStep st).1, false) := by
  induction l with
  | nil => intro st h; exact h
  | cons p l ih =>
    intro st h
    refine ih _ ?_
    unfold sqStep
    by_cases hb : isBl p = true
    · rw [if_pos hb]; exact h
    · rw [if_neg hb]
      have hb : isBl p = false := by simpa using hb
      by_cases hg : st.2 = true ∧ st.1 ≠ []
      · rw [if_pos hg]
        simp only
        rw [show st.1 ++ [32, p] = (st.1 ++ [32]) ++ [p] by simp, sqOf_snoc, sqOf_snoc, h, sq_yes _ _ 32 (by decide), sq_two _ _ hb hg.2]
        simp
      · rw [if_neg hg]
        simp only
        rw [sqOf_snoc, h, sq_one _ _ _ hb (.inl rfl)]
theorem sq_sq (l : List Int) : sqOf (sqOf l).1 = ((sqOf l).1, false) := sq_inv l ([], false) rfl
theorem cut_cut (l : List Int) (n : Int) : cutOf (cutOf l n) n = cutOf l n := by
  by_cases h1 : n < 1
  · simp [cutOf, h1]
  by_cases h2 : n < l.length
  · have e : cutOf l n = l.take (n - 1).toNat ++ [8230] := by unfold cutOf; rw [if_neg h1, if_pos h2]
    rw [e]
    unfold cutOf
    rw [if_neg h1, if_neg]
    rw [List.length_append, List.length_take]
    simp only [List.length_cons, List.length_nil]
    omega
  · have e : cutOf l n = l := by unfold cutOf; rw [if_neg h1, if_neg h2]
    rw [e, e]
theorem cut_len (l : List Int) (n : Int) : ((cutOf l n).length : Int) ≤ max n 0 := by
  by_cases h1 : n < 1
  · simp [cutOf, h1]; omega
  by_cases h2 : n < l.length
  · have e : cutOf l n = l.take (n - 1).toNat ++ [8230] := by unfold cutOf; rw [if_neg h1, if_pos h2]
    rw [e, List.length_append, List.length_take]
    simp only [List.length_cons, List.length_nil]
    omega
  · have e : cutOf l n = l := by unfold cutOf; rw [if_neg h1, if_neg h2]
    rw [e]
    omega
theorem cut_small (l : List Int) (n : Int) : (cutOf l n).length ≤ l.length + 1 := by
  unfold cutOf
  split
  · simp
  · split
    · rw [List.length_append, List.length_take]
      simp only [List.length_cons, List.length_nil]
      omega
    · omega
theorem sq_small (l : List Int) : (sqOf l).1.length ≤ 2 * l.length := by
  have : ∀ (l : List Int) (st : List Int × Bool), (l.foldl sqStep st).1.length ≤ st.1.length + 2 * l.length := by
    intro l
    induction l with
    | nil => intro st; simp
    | cons p l ih =>
      intro st
      refine Nat.le_trans (ih _) ?_
      have : (sqStep st p).1.length ≤ st.1.length + 2 := by
        unfold sqStep
        split
        · simp
        · simp only
          split <;> simp
      rw [List.length_cons]
      omega
  simpa [sqOf] using this l ([], false)

/-- The text of code points. -/
def txt (l : List Int) : ByteArray := ⟨(enc l).toArray⟩
theorem txt_list (l : List Int) : (txt l).data.toList = enc l := by simp [txt]
theorem txt_pts (l : List Int) (h : AllPt l) : pts (txt l).data.toList = l := by rw [txt_list, pts_enc' l h]
theorem txt_size (l : List Int) : (txt l).size ≤ 4 * l.length := by
  have := enc_length_le l
  show (enc l).toArray.size ≤ _
  rw [List.size_toArray]
  exact this
theorem txt_of_valid (s : ByteArray) (h : validD s.data.toList = true) : s = txt (pts s.data.toList) := by
  apply ByteArray.ext
  apply Array.toList_inj.1
  rw [txt_list, (valid_iff _).1 h]
theorem txt_of_bad (s : ByteArray) (h : validD s.data.toList = false) : txt (pts s.data.toList) ≠ s := by
  intro e
  have : validD s.data.toList = true := by rw [← e, txt_list]; exact valid_enc _ (pts_allPt _)
  rw [h] at this
  cases this
theorem txt_cat (a b : List Int) : txt a ++ txt b = txt (a ++ b) := by
  unfold txt
  rw [enc_append]
  exact cat_bytes _ _

theorem repair_txt (l : List Int) (w : World) (hl : l.length ≤ 100000) (hp : AllPt l) : Calls Tryd.prog 20 #[.string (txt l)] w fun e w' => e = .returned (.string (txt l)) ∧ Below w.heap.size w w' := by
  have := txt_size l
  have h := repair_any (txt l) w (by omega)
  rwa [txt_pts l hp] at h
theorem plain_txt (l : List Int) (w : World) (hl : l.length ≤ 100000) (hp : AllPt l) : Calls Tryd.prog 21 #[.string (txt l)] w fun e w' => e = .returned (.string (txt (l.filter inXml))) ∧ Below w.heap.size w w' := by
  have := txt_size l
  have h := plain_any (txt l) w (by omega)
  rwa [txt_pts l hp] at h
theorem squeeze_txt (l : List Int) (w : World) (hl : l.length ≤ 100000) (hp : AllPt l) : Calls Tryd.prog 23 #[.string (txt l)] w fun e w' => e = .returned (.string (txt (sqOf l).1)) ∧ Below w.heap.size w w' := by
  have := txt_size l
  have h := squeeze_any (txt l) w (by omega)
  rwa [txt_pts l hp] at h
theorem cut_txt (l : List Int) (w : World) (hl : l.length ≤ 100000) (hp : AllPt l) (n : Int) : Calls Tryd.prog 25 #[.string (txt l), .int .i64 n] w fun e w' => e = .returned (.string (txt (cutOf l n))) ∧ Below w.heap.size w w' := by
  have := txt_size l
  have h := cut_any (txt l) n w (by omega)
  rwa [txt_pts l hp] at h
theorem valid_txt (l : List Int) (w : World) (hl : l.length ≤ 100000) (hp : AllPt l) (hT : Tabs w) : Calls Tryd.prog 12 #[.string (txt l)] w fun e w' => e = .returned (.bool true) ∧ Below w.heap.size w w' := by
  have := txt_size l
  have h := uvalid_any (txt l) w (by omega) hT
  rwa [show validD (txt l).data.toList = true by rw [txt_list]; exact valid_enc l hp] at h
theorem points_txt (l : List Int) (w : World) (hl : l.length ≤ 100000) (hp : AllPt l) : Calls Tryd.prog 15 #[.string (txt l)] w (OutI w l) := by
  have := txt_size l
  have h := upoints_any (txt l) w (by omega)
  rwa [txt_pts l hp] at h
end Go.Proofs.YtfgpilkapipjbaaDoor
