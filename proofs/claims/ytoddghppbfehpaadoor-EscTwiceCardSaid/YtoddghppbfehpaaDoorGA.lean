/-
  The walks of what every law of layer 2 asks first, and of the laws EscHtml, EscUnhtml, EscJson, EscUnjson. Conditions: the library's two tables hold what they are laid with.
-/
import Derived.Test.YtoddghppbfehpaaDoorFH
import Derived.Test.YtoddghppbfehpaaDoorFD
namespace Go.Proofs.YtoddghppbfehpaaDoor
open Go.RowKit
open Go.Lib

/-- What a law leaves. -/
def Yes (w : World) (e : Ending) (w' : World) : Prop := e = .returned (.bool true) ∧ Below w.heap.size w w'
theorem f1 (w : World) (hT : Tabs w) : Calls Tryd.prog 16 #[.string ⟨#[34, 92, 117, 48, 48, 52, 49, 92, 117, 100, 56, 51, 100, 92, 117, 100, 101, 48, 48, 34]⟩] w fun e w' => e = .returned (.tuple #[.string ⟨#[65, 240, 159, 152, 128]⟩, .int .i64 0]) ∧ Below w.heap.size w w' := by
  have h := unjson_any ⟨#[34, 92, 117, 48, 48, 52, 49, 92, 117, 100, 56, 51, 100, 92, 117, 100, 101, 48, 48, 34]⟩ w (by decide) hT
  rwa [show unjson (⟨#[34, 92, 117, 48, 48, 52, 49, 92, 117, 100, 56, 51, 100, 92, 117, 100, 101, 48, 48, 34]⟩ : ByteArray).data.toList = some [65, 240, 159, 152, 128] by decide +kernel] at h
theorem f2 (w : World) (hT : Tabs w) : Calls Tryd.prog 16 #[.string ⟨#[34, 92, 117, 100, 56, 51, 100, 34]⟩] w fun e w' => e = .returned (.tuple #[.string ⟨#[]⟩, .int .i64 20]) ∧ Below w.heap.size w w' := by
  have h := unjson_any ⟨#[34, 92, 117, 100, 56, 51, 100, 34]⟩ w (by decide) hT
  rwa [show unjson (⟨#[34, 92, 117, 100, 56, 51, 100, 34]⟩ : ByteArray).data.toList = none by decide +kernel] at h
theorem f3 (w : World) : Calls Tryd.prog 10 #[.string ⟨#[60, 97, 32, 98, 61, 39, 49, 39, 62]⟩] w fun e w' => e = .returned (.string ⟨#[38, 108, 116, 59, 97, 32, 98, 61, 38, 35, 51, 57, 59, 49, 38, 35, 51, 57, 59, 38, 103, 116, 59]⟩) ∧ Below w.heap.size w w' := by
  have h := html_any ⟨#[60, 97, 32, 98, 61, 39, 49, 39, 62]⟩ w (by decide)
  rwa [show enc (html ((pts (⟨#[60, 97, 32, 98, 61, 39, 49, 39, 62]⟩ : ByteArray).data.toList).filter inXml)) = [38, 108, 116, 59, 97, 32, 98, 61, 38, 35, 51, 57, 59, 49, 38, 35, 51, 57, 59, 38, 103, 116, 59] by decide +kernel] at h
theorem f4 (w : World) : Calls Tryd.prog 12 #[.string ⟨#[38, 35, 120, 52, 49, 59, 38, 35, 54, 54, 59, 38, 97, 109, 112, 59, 38, 110, 111, 112, 101, 59]⟩] w fun e w' => e = .returned (.string ⟨#[65, 66, 38, 38, 110, 111, 112, 101, 59]⟩) ∧ Below w.heap.size w w' := by
  have h := unhtml_any ⟨#[38, 35, 120, 52, 49, 59, 38, 35, 54, 54, 59, 38, 97, 109, 112, 59, 38, 110, 111, 112, 101, 59]⟩ w (by decide)
  rwa [show unh (⟨#[38, 35, 120, 52, 49, 59, 38, 35, 54, 54, 59, 38, 97, 109, 112, 59, 38, 110, 111, 112, 101, 59]⟩ : ByteArray).data.toList = [65, 66, 38, 38, 110, 111, 112, 101, 59] by decide +kernel] at h
theorem f5 (w : World) : Calls Tryd.prog 14 #[.string ⟨#[97, 60, 10]⟩] w fun e w' => e = .returned (.string ⟨#[34, 97, 92, 117, 48, 48, 51, 99, 92, 110, 34]⟩) ∧ Below w.heap.size w w' := by
  have h := json_any ⟨#[97, 60, 10]⟩ w (by decide)
  rwa [show jsonL (⟨#[97, 60, 10]⟩ : ByteArray).data.toList = [34, 97, 92, 117, 48, 48, 51, 99, 92, 110, 34] by decide +kernel] at h
theorem f6 (w : World) : Calls Tryd.prog 21 #[.string ⟨#[97, 32, 47]⟩] w fun e w' => e = .returned (.string ⟨#[97, 37, 50, 48, 37, 50, 70]⟩) ∧ Below w.heap.size w w' := by
  have h := percent_any ⟨#[97, 32, 47]⟩ w (by decide)
  rwa [show pct (⟨#[97, 32, 47]⟩ : ByteArray).data.toList = [97, 37, 50, 48, 37, 50, 70] by decide +kernel] at h
set_option maxRecDepth 100000 in
theorem first_any (w : World) (hT : Tabs w) : Calls Tryd.prog 9 #[] w (Yes w) := by
  have HT := Lib.hid hT
  clear hT
  go_enter Tryd.func9, Tryd.ntmps9
  go_wp2_with fail
  refine (f1 w HT.out).mono ?_
  rintro e w1 ⟨rfl, B1⟩
  have HT1 := Lib.hid (HT.out.below B1)
  go_wp2_with fail
  refine (f2 w1 HT1.out).mono ?_
  rintro e w2 ⟨rfl, b2⟩
  have B2 := B1.trans (b2.mono B1.size)
  clear B1 b2
  go_wp2_with fail
  refine (f3 w2).mono ?_
  rintro e w3 ⟨rfl, b3⟩
  have B3 := B2.trans (b3.mono B2.size)
  clear B2 b3
  go_wp2_with fail
  refine (f4 w3).mono ?_
  rintro e w4 ⟨rfl, b4⟩
  have B4 := B3.trans (b4.mono B3.size)
  clear B3 b4
  go_wp2_with fail
  refine (f5 w4).mono ?_
  rintro e w5 ⟨rfl, b5⟩
  have B5 := B4.trans (b5.mono B4.size)
  clear B4 b5
  go_wp2_with fail
  refine (f6 w5).mono ?_
  rintro e w6 ⟨rfl, b6⟩
  have B6 := B5.trans (b6.mono B5.size)
  clear B5 b6
  go_wp2
  go_ret
  exact ⟨rfl, B6⟩
set_option maxRecDepth 100000 in
set_option maxHeartbeats 1000000 in
theorem law_html (s : ByteArray) (w : World) (hT : Tabs w) : Calls Tryd.prog 3 #[.string s] w (Yes w) := by
  have hf := first_any w hT
  clear hT
  by_cases h5 : 3000 < s.size
  · go_enter Tryd.func3, Tryd.ntmps3
    go_wp2_with fail
    refine hf.mono ?_
    clear hf
    rintro e w1 ⟨rfl, B1⟩
    go_wp2
    go_ret
    exact ⟨rfl, B1⟩
  · have hs : s.size ≤ 3000 := by omega
    clear h5
    have c2 := fun W => html_any s W (by omega)
    have c3 := fun W => rhtml_any s W (by omega)
    generalize (⟨(enc (html ((pts s.data.toList).filter inXml))).toArray⟩ : ByteArray) = x at *
    go_enter Tryd.func3, Tryd.ntmps3
    go_wp2_with fail
    refine hf.mono ?_
    clear hf
    rintro e w1 ⟨rfl, B1⟩
    go_wp2_with fail
    refine (c2 w1).mono ?_
    clear c2
    rintro e w2 ⟨rfl, b2⟩
    have B2 := B1.trans (b2.mono B1.size)
    clear b2 B1
    go_wp2_with fail
    refine (c3 w2).mono ?_
    clear c3
    rintro e w3 ⟨rfl, b3⟩
    have B3 := B2.trans (b3.mono B2.size)
    clear b3 B2
    go_wp2
    go_ret
    exact ⟨rfl, B3⟩
set_option maxRecDepth 100000 in
set_option maxHeartbeats 1000000 in
theorem law_unhtml (s : ByteArray) (w : World) (hT : Tabs w) : Calls Tryd.prog 4 #[.string s] w (Yes w) := by
  have hf := first_any w hT
  clear hT
  by_cases h5 : 3000 < s.size
  · go_enter Tryd.func4, Tryd.ntmps4
    go_wp2_with fail
    refine hf.mono ?_
    clear hf
    rintro e w1 ⟨rfl, B1⟩
    go_wp2
    go_ret
    exact ⟨rfl, B1⟩
  · have hs : s.size ≤ 3000 := by omega
    clear h5
    have c2 := fun W => unhtml_any s W (by omega)
    have c3 := fun W => runhtml_any s W (by omega)
    generalize (⟨(unh s.data.toList).toArray⟩ : ByteArray) = x at *
    go_enter Tryd.func4, Tryd.ntmps4
    go_wp2_with fail
    refine hf.mono ?_
    clear hf
    rintro e w1 ⟨rfl, B1⟩
    go_wp2_with fail
    refine (c2 w1).mono ?_
    clear c2
    rintro e w2 ⟨rfl, b2⟩
    have B2 := B1.trans (b2.mono B1.size)
    clear b2 B1
    go_wp2_with fail
    refine (c3 w2).mono ?_
    clear c3
    rintro e w3 ⟨rfl, b3⟩
    have B3 := B2.trans (b3.mono B2.size)
    clear b3 B2
    go_wp2
    go_ret
    exact ⟨rfl, B3⟩
set_option maxRecDepth 100000 in
set_option maxHeartbeats 1000000 in
theorem law_json (s : ByteArray) (w : World) (hT : Tabs w) : Calls Tryd.prog 5 #[.string s] w (Yes w) := by
  have hf := first_any w hT
  clear hT
  by_cases h5 : 3000 < s.size
  · go_enter Tryd.func5, Tryd.ntmps5
    go_wp2_with fail
    refine hf.mono ?_
    clear hf
    rintro e w1 ⟨rfl, B1⟩
    go_wp2
    go_ret
    exact ⟨rfl, B1⟩
  · have hs : s.size ≤ 3000 := by omega
    clear h5
    have c2 := fun W => json_any s W (by omega)
    have c3 := fun W => rjson_any s W (by omega)
    generalize (⟨(jsonL s.data.toList).toArray⟩ : ByteArray) = x at *
    go_enter Tryd.func5, Tryd.ntmps5
    go_wp2_with fail
    refine hf.mono ?_
    clear hf
    rintro e w1 ⟨rfl, B1⟩
    go_wp2_with fail
    refine (c2 w1).mono ?_
    clear c2
    rintro e w2 ⟨rfl, b2⟩
    have B2 := B1.trans (b2.mono B1.size)
    clear b2 B1
    go_wp2_with fail
    refine (c3 w2).mono ?_
    clear c3
    rintro e w3 ⟨rfl, b3⟩
    have B3 := B2.trans (b3.mono B2.size)
    clear b3 B2
    go_wp2
    go_ret
    exact ⟨rfl, B3⟩
/-- Both answers of Unjson, by one pair. -/
theorem two_unj (o : Option (List UInt8)) : (o = none) ∨ ∃ l, o = some l := by cases o with
  | none => exact .inl rfl
  | some l => exact .inr ⟨l, rfl⟩
set_option maxRecDepth 100000 in
set_option maxHeartbeats 1000000 in
theorem law_unjson (s : ByteArray) (w : World) (hT : Tabs w) : Calls Tryd.prog 6 #[.string s] w (Yes w) := by
  have hf := first_any w hT
  have HT := Lib.hid hT
  clear hT
  by_cases h5 : 3000 < s.size
  · go_enter Tryd.func6, Tryd.ntmps6
    go_wp2_with fail
    refine hf.mono ?_
    clear hf
    rintro e w1 ⟨rfl, B1⟩
    go_wp2
    go_ret
    exact ⟨rfl, B1⟩
  · have hs : s.size ≤ 3000 := by omega
    clear h5
    have c2 := fun W h => unjson_any s W (by omega) h
    have c3 := fun W => runjson_any s W (by omega)
    rcases two_unj (unjson s.data.toList) with ho | ⟨l, ho⟩
    all_goals
      rw [ho] at c2 c3
      unfold UnjOut at c2
      unfold UnjR at c3
      simp only [Option.getD, Option.isSome] at c2 c3
      clear ho
      try generalize (⟨l.toArray⟩ : ByteArray) = x at *
      go_enter Tryd.func6, Tryd.ntmps6
      go_wp2_with fail
      refine hf.mono ?_
      clear hf
      rintro e w1 ⟨rfl, B1⟩
      have HT1 := Lib.hid (HT.out.below B1)
      have c2' := c2 w1 HT1.out
      go_wp2_with fail
      refine c2'.mono ?_
      clear c2' c2
      rintro e w2 ⟨rfl, b2⟩
      have B2 := B1.trans (b2.mono B1.size)
      clear b2 B1
      go_wp2_with fail
      refine (c3 w2).mono ?_
      clear c3
      rintro e w3 ⟨rfl, b3⟩
      have B3 := B2.trans (b3.mono B2.size)
      clear b3 B2
      go_wp2
      go_ret
      exact ⟨rfl, B3⟩
end Go.Proofs.YtoddghppbfehpaaDoor
