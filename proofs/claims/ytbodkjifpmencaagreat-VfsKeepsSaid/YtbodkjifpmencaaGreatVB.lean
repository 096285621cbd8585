/-
  The walks of strings.Cut at a slash and of package vfs's Right and directory. Conditions: texts of a length that the model allows.
-/
import Derived.Test.YtbodkjifpmencaaGreatVA
namespace Go.Proofs.YtbodkjifpmencaaGreat
open Go.RowKit
open Go.Lib

theorem take_extract (s : ByteArray) (k : Nat) : (s.extract 0 k).data.toList = s.data.toList.take k := by
  simp [ByteArray.data_extract]
theorem drop_extract (s : ByteArray) (k : Nat) : (s.extract k s.size).data.toList = s.data.toList.drop k := by
  rw [ByteArray.data_extract]
  simp [List.take_of_length_le]
theorem index_at {s : ByteArray} {c : UInt8} {i : Nat} (h : Lib.indexByte s.data.toList c = i) : i < s.size ∧ s.data.toList = s.data.toList.take i ++ c :: s.data.toList.drop (i + 1) ∧ c ∉ s.data.toList.take i := by
  obtain ⟨h1, h2⟩ := Lib.indexByte_some h
  have hl : i < s.data.toList.length := (List.getElem?_eq_some_iff.1 h1).1
  have hg : s.data.toList[i] = c := (List.getElem?_eq_some_iff.1 h1).2
  refine ⟨by rw [size_list]; exact hl, ?_, ?_⟩
  · have := List.drop_eq_getElem_cons hl
    rw [hg] at this
    rw [← this, List.take_append_drop]
  · intro hm
    obtain ⟨k, hk, he⟩ := List.getElem_of_mem hm
    rw [List.length_take] at hk
    rw [List.getElem_take] at he
    exact h2 k (by omega) (by rw [List.getElem?_eq_getElem (by omega), he])
theorem index_not {l : List UInt8} {c : UInt8} (h : Lib.indexByte l c = -1) : c ∉ l := by
  intro hm
  obtain ⟨k, hk, he⟩ := List.getElem_of_mem hm
  exact Lib.indexByte_none h k (by rw [List.getElem?_eq_getElem hk, he])
theorem index_or (l : List UInt8) (c : UInt8) : Lib.indexByte l c = -1 ∨ ∃ i : Nat, Lib.indexByte l c = i := by
  have := Lib.indexByte_ge l c
  by_cases h : Lib.indexByte l c = -1
  · exact .inl h
  · exact .inr ⟨(Lib.indexByte l c).toNat, by omega⟩
theorem bs_ext {s : ByteArray} {l : Bs} (h : s.data.toList = l) : s = bs l := by rw [← h, bs_of]
/-- What a cut leaves. -/
def CutOut (a b : ByteArray) (ok : Bool) (w : World) (e : Ending) (w' : World) : Prop := e = .returned (.tuple #[.string a, .string b, .bool ok]) ∧ Below w.heap.size w w'
set_option maxRecDepth 100000 in
theorem scut_yes (s : ByteArray) (c : UInt8) (i : Nat) (w : World) (hs : s.size ≤ 281474976710656) (hi : Lib.indexByte s.data.toList c = i) : Calls Tryz.prog 77 #[.string s, .string ⟨#[c]⟩] w (CutOut (s.extract 0 i) (s.extract (i + 1) s.size) true w) := by
  have hc := libIndex1 s c w
  rw [hi] at hc
  have hlt := (index_at hi).1
  clear hi
  go_enter Tryz.func77, Tryz.ntmps77
  go_wp2_with fail
  refine hc.mono ?_
  clear hc
  rintro e w' ⟨rfl, rfl⟩
  have e1 : IntKind.i64.wrap ((i : Int) + 1) = (i : Int) + 1 := IntWalk.i64_in _ (by omega)
  have e2 : ((i : Int) + 1).toNat = i + 1 := by omega
  have e3 : (0 : Int) ≤ (i : Int) + 1 := by omega
  have e4 : i + 1 ≤ s.size := by omega
  have e5 : i ≤ s.size := by omega
  go_wp2
  go_quiet (fail)
  clear e1 e2
  go_wp2
  go_ret3
  exact ⟨rfl, below_drewN (Below.refl _ _) _⟩
set_option maxRecDepth 100000 in
theorem scut_no (s : ByteArray) (c : UInt8) (w : World) (hi : Lib.indexByte s.data.toList c = -1) : Calls Tryz.prog 77 #[.string s, .string ⟨#[c]⟩] w (CutOut s ⟨#[]⟩ false w) := by
  have hc := libIndex1 s c w
  rw [hi] at hc
  clear hi
  go_enter Tryz.func77, Tryz.ntmps77
  go_wp2_with fail
  refine hc.mono ?_
  clear hc
  rintro e w' ⟨rfl, rfl⟩
  go_wp2
  go_ret3
  exact ⟨rfl, Below.refl _ _⟩
set_option maxRecDepth 100000 in
theorem cut_go (s : ByteArray) (c : UInt8) (a b : ByteArray) (ok : Bool) (w : World) (hc : Calls Tryz.prog 77 #[.string s, .string ⟨#[c]⟩] w (CutOut a b ok w)) : Calls Tryz.prog 63 #[.string s, .string ⟨#[c]⟩] w (CutOut a b ok w) := by
  go_enter Tryz.func63, Tryz.ntmps63
  go_wp2_with fail
  refine hc.mono ?_
  clear hc
  rintro e w' ⟨rfl, hb⟩
  go_wp2
  go_ret3
  exact ⟨rfl, hb⟩
theorem cut_yes (s : ByteArray) (a b : Bs) (w : World) (hs : s.size ≤ 281474976710656) (h : cutS s.data.toList = some (a, b)) : Calls Tryz.prog 63 #[.string s, .string ⟨#[47]⟩] w (CutOut (bs a) (bs b) true w) := by
  rcases index_or s.data.toList 47 with hi | ⟨i, hi⟩
  · rw [cutS_no _ (index_not hi)] at h; cases h
  · obtain ⟨h1, h2, h3⟩ := index_at hi
    rw [h2, cutS_yes _ _ h3] at h
    simp at h
    have e1 : s.extract 0 i = bs a := bs_ext (by rw [take_extract, h.1])
    have e2 : s.extract (i + 1) s.size = bs b := bs_ext (by rw [drop_extract, h.2])
    have := scut_yes s 47 i w hs hi
    rw [e1, e2] at this
    exact cut_go s 47 _ _ _ w this
theorem cut_no (s : ByteArray) (w : World) (h : cutS s.data.toList = none) : Calls Tryz.prog 63 #[.string s, .string ⟨#[47]⟩] w (CutOut s ⟨#[]⟩ false w) := by
  rcases index_or s.data.toList 47 with hi | ⟨i, hi⟩
  · exact cut_go s 47 _ _ _ w (scut_no s 47 w hi)
  · obtain ⟨h1, h2, h3⟩ := index_at hi
    rw [h2, cutS_yes _ _ h3] at h
    cases h
theorem dir_none {l : Bs} (h : cutS l = none) : dirL l = [] := by unfold dirL; rw [h]
theorem dir_some {l a b : Bs} (h : cutS l = some (a, b)) : dirL l = a := by unfold dirL; rw [h]
theorem right_none {l : Bs} (h : cutS l = none) : rightL l = isPartL l := by unfold rightL; rw [h]
theorem right_some {l a b : Bs} (h : cutS l = some (a, b)) : rightL l = (isPartL a && isPartL b) := by unfold rightL; rw [h]
set_option maxRecDepth 100000 in
theorem directory_any (s : ByteArray) (w : World) (hs : s.size ≤ 281474976710656) : Calls Tryz.prog 38 #[.string s] w fun e w' => e = .returned (.string (bs (dirL s.data.toList))) ∧ Below w.heap.size w w' := by
  rcases hc : cutS s.data.toList with _ | ⟨a, b⟩
  · have h := cut_no s w hc
    have HD := Lib.hid (dir_none hc)
    clear hc
    go_enter Tryz.func38, Tryz.ntmps38
    go_wp2_with fail
    refine h.mono ?_
    clear h
    rintro e w' ⟨rfl, hb⟩
    go_wp2
    go_ret
    exact ⟨by rw [HD.out]; rfl, hb⟩
  · have h := cut_yes s a b w hs hc
    have HD := Lib.hid (dir_some hc)
    clear hc
    go_enter Tryz.func38, Tryz.ntmps38
    go_wp2_with fail
    refine h.mono ?_
    clear h
    rintro e w' ⟨rfl, hb⟩
    go_wp2
    go_ret
    exact ⟨by rw [HD.out]; rfl, hb⟩
theorem isPart_is (s : ByteArray) (x : Bool) (h : isPartL s.data.toList = x) (w : World) : Calls Tryz.prog 47 #[.string s] w fun e w' => e = .returned (.bool x) ∧ Below w.heap.size w w' := by
  rw [← h]; exact isPart_any s w
set_option maxRecDepth 100000 in
theorem right_any (s : ByteArray) (w : World) (hs : s.size ≤ 281474976710656) : Calls Tryz.prog 43 #[.string s] w fun e w' => e = .returned (.bool (rightL s.data.toList)) ∧ Below w.heap.size w w' := by
  rcases hc : cutS s.data.toList with _ | ⟨a, b⟩
  · have h := cut_no s w hc
    have HD := Lib.hid (right_none hc)
    clear hc
    obtain ⟨x, hx⟩ : ∃ x, isPartL s.data.toList = x := ⟨_, rfl⟩
    have HP := Lib.hid (isPart_is s x hx)
    have HX := Lib.hid hx
    clear hx
    cases x
    all_goals
      go_enter Tryz.func43, Tryz.ntmps43
      go_wp2_with fail
      refine h.mono ?_
      rintro e w' ⟨rfl, hb⟩
      go_wp2_with (go_at_call 47; (with_reducible refine (HP.out _).mono ?_); rintro e w2 ⟨rfl, hb2⟩)
      go_ret
      exact ⟨by rw [HD.out, HX.out]; rfl, hb.trans (hb2.mono hb.size)⟩
  · have h := cut_yes s a b w hs hc
    have HD := Lib.hid (right_some hc)
    clear hc
    obtain ⟨x, hx⟩ : ∃ x, isPartL a = x := ⟨_, rfl⟩
    obtain ⟨y, hy⟩ : ∃ y, isPartL b = y := ⟨_, rfl⟩
    have HP := Lib.hid (isPart_is (bs a) x (by rw [bs_list]; exact hx))
    have HQ := Lib.hid (isPart_is (bs b) y (by rw [bs_list]; exact hy))
    have HX := Lib.hid hx
    have HY := Lib.hid hy
    clear hx hy
    generalize bs a = A at *
    generalize bs b = B at *
    cases x
    all_goals
      go_enter Tryz.func43, Tryz.ntmps43
      go_wp2_with fail
      refine h.mono ?_
      rintro e w' ⟨rfl, hb⟩
      go_wp2_with (first
        | (go_at_call 47; (with_reducible refine (HP.out _).mono ?_); rintro e w2 ⟨rfl, hb2⟩)
        | (go_at_call 47; (with_reducible refine (HQ.out _).mono ?_); rintro e w3 ⟨rfl, hb3⟩))
      go_ret
      first
        | exact ⟨by rw [HD.out, HX.out]; rfl, hb.trans (hb2.mono hb.size)⟩
        | exact ⟨by rw [HD.out, HX.out, HY.out]; rfl, (hb.trans (hb2.mono hb.size)).trans (hb3.mono (Nat.le_trans hb.size hb2.size))⟩
end Go.Proofs.YtbodkjifpmencaaGreat
