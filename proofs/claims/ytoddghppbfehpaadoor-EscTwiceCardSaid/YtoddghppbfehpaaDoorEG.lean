/-
  The walks of strings.Cut at one byte and of package esc's cutX, numbered, named. Conditions: texts of at most a million bytes.
-/
import Derived.Test.YtoddghppbfehpaaDoorEE
namespace Go.Proofs.YtoddghppbfehpaaDoor
open Go.RowKit
open Go.Lib

def strLen (v : Value) : Nat := match v with | .string r => r.size | _ => 0
/-- A builder is kept through what a callee makes. -/
theorem bf_below {T e : TypeId} {B b : Nat} {bs : List Value} {w w' : World} (h : Lib.IsBuilderF T e B b bs w) (hb : Below w.heap.size w w') : Lib.IsBuilderF T e B b bs w' := by
  have one : ∀ {p : Value}, Lib.BuilderAtF T e B b p bs w → Lib.BuilderAtF T e B b p bs w' := by
    intro p h
    have hlt := h.lt
    obtain ⟨h1, v, hv, hown, h2⟩ := h
    refine ⟨h1, v, ?_, ?_, h2⟩
    · rw [hb.block b hlt]; exact hv
    · refine hown.kept (row := none) ⟨hb.os, hb.tape, hb.output, hb.size, fun k hk _ => hb.block k hk⟩ (Classical.em _)
  rcases h with h | h
  · exact .inl (one h)
  · exact .inr (one h)
theorem byteCells_rune (a : List UInt8) (p : Int) : byteCells a ++ runeCells p = byteCells (a ++ encodeRune p) := by
  rw [byteCells_append, ← byteCells_encodeRune]
theorem take_extract (s : ByteArray) (k : Nat) : (s.extract 0 k).data.toList = s.data.toList.take k := by
  simp [ByteArray.data_extract]
theorem index_at {s : ByteArray} {c : UInt8} {i : Nat} (h : Lib.indexByte s.data.toList c = i) : i < s.size ∧ s.data.toList = s.data.toList.take i ++ c :: s.data.toList.drop (i + 1) ∧ c ∉ s.data.toList.take i := by
  obtain ⟨h1, h2⟩ := Lib.indexByte_some h
  have hl : i < s.data.toList.length := (List.getElem?_eq_some_iff.1 h1).1
  have hg : s.data.toList[i] = c := (List.getElem?_eq_some_iff.1 h1).2
  refine ⟨by rw [size_list]; exact hl, ?_, ?_⟩
  · have := List.drop_eq_getElem_cons hl
    rw [hg] at this
    rw [← this, List.take_append_drop]
  · intro hm
    obtain ⟨k, hk, he⟩ := List.getElem_of_mem hm
    rw [List.length_take] at hk
    rw [List.getElem_take] at he
    exact h2 k (by omega) (by rw [List.getElem?_eq_getElem (by omega), he])
theorem index_not {l : List UInt8} {c : UInt8} (h : Lib.indexByte l c = -1) : c ∉ l := by
  intro hm
  obtain ⟨k, hk, he⟩ := List.getElem_of_mem hm
  exact Lib.indexByte_none h k (by rw [List.getElem?_eq_getElem hk, he])
theorem index_or (l : List UInt8) (c : UInt8) : Lib.indexByte l c = -1 ∨ ∃ i : Nat, Lib.indexByte l c = i := by
  have := Lib.indexByte_ge l c
  by_cases h : Lib.indexByte l c = -1
  · exact .inl h
  · exact .inr ⟨(Lib.indexByte l c).toNat, by omega⟩
/-- What a cut leaves. -/
def CutOut (a b : ByteArray) (ok : Bool) (w : World) (e : Ending) (w' : World) : Prop := e = .returned (.tuple #[.string a, .string b, .bool ok]) ∧ Below w.heap.size w w'
set_option maxRecDepth 100000 in
theorem scut_yes (s : ByteArray) (c : UInt8) (i : Nat) (w : World) (hs : s.size ≤ 1000000) (hi : Lib.indexByte s.data.toList c = i) : Calls Tryd.prog 47 #[.string s, .string ⟨#[c]⟩] w (CutOut (s.extract 0 i) (s.extract (i + 1) s.size) true w) := by
  have hc := libIndex1 s c w
  rw [hi] at hc
  have hlt := (index_at hi).1
  clear hi
  go_enter Tryd.func47, Tryd.ntmps47
  go_wp2_with fail
  refine hc.mono ?_
  clear hc
  rintro e w' ⟨rfl, rfl⟩
  have e1 : IntKind.i64.wrap ((i : Int) + 1) = (i : Int) + 1 := IntWalk.i64_in _ (by omega)
  have e2 : ((i : Int) + 1).toNat = i + 1 := by omega
  have e3 : (0 : Int) ≤ (i : Int) + 1 := by omega
  have e4 : i + 1 ≤ s.size := by omega
  have e5 : i ≤ s.size := by omega
  go_wp2
  go_quiet (fail)
  clear e1 e2
  go_wp2
  go_ret3
  exact ⟨rfl, below_drewN (Below.refl _ _) _⟩
set_option maxRecDepth 100000 in
theorem scut_no (s : ByteArray) (c : UInt8) (w : World) (hi : Lib.indexByte s.data.toList c = -1) : Calls Tryd.prog 47 #[.string s, .string ⟨#[c]⟩] w (CutOut s ⟨#[]⟩ false w) := by
  have hc := libIndex1 s c w
  rw [hi] at hc
  clear hi
  go_enter Tryd.func47, Tryd.ntmps47
  go_wp2_with fail
  refine hc.mono ?_
  clear hc
  rintro e w' ⟨rfl, rfl⟩
  go_wp2
  go_ret3
  exact ⟨rfl, Below.refl _ _⟩
set_option maxRecDepth 100000 in
theorem cut_go (s : ByteArray) (c : UInt8) (a b : ByteArray) (ok : Bool) (w : World) (hc : Calls Tryd.prog 47 #[.string s, .string ⟨#[c]⟩] w (CutOut a b ok w)) : Calls Tryd.prog 28 #[.string s, .string ⟨#[c]⟩] w (CutOut a b ok w) := by
  go_enter Tryd.func28, Tryd.ntmps28
  go_wp2_with fail
  refine hc.mono ?_
  clear hc
  rintro e w' ⟨rfl, hb⟩
  go_wp2
  go_ret3
  exact ⟨rfl, hb⟩

/-- Behind an x or an X. -/
def isX (l : List UInt8) : Bool := decide (l.head? = some 120 ∨ l.head? = some 88)
theorem head_at (s : ByteArray) (h : 0 < s.size) : s.data.toList.head? = some s[0] := by
  rw [List.head?_eq_getElem?]; exact getE? s 0 h
def CutXOut (s : ByteArray) (w : World) (e : Ending) (w' : World) : Prop := e = .returned (.tuple #[.string (if isX s.data.toList = true then s.extract 1 s.size else ⟨#[]⟩), .bool (isX s.data.toList)]) ∧ w = w'
theorem CutXOut.yes {s : ByteArray} {w : World} (h : isX s.data.toList = true) : CutXOut s w (.returned (.tuple #[.string (s.extract 1 s.size), .bool true])) w := by
  unfold CutXOut; rw [h]; exact ⟨rfl, rfl⟩
theorem CutXOut.no {s : ByteArray} {w : World} (h : isX s.data.toList = false) : CutXOut s w (.returned (.tuple #[.string ⟨#[]⟩, .bool false])) w := by
  unfold CutXOut; rw [h]; exact ⟨rfl, rfl⟩
set_option maxRecDepth 100000 in
theorem cutX_any (s : ByteArray) (w : World) (hs : s.size ≤ 1000000) : Calls Tryd.prog 70 #[.string s] w (CutXOut s w) := by
  by_cases h0 : s.size = 0
  · obtain rfl := empty_of s h0
    clear h0
    go_enter Tryd.func70, Tryd.ntmps70
    go_wp2
    go_ret2
    exact CutXOut.no rfl
  have hp : 0 < s.size := by omega
  clear h0
  have hne := list_ne s hp
  have hne2 : (s.toList == ([] : List UInt8)) = false := by simpa using hne
  have hne3 : (s.toList != ([] : List UInt8)) = true := by simpa using hne
  have HH := Lib.hid (head_at s hp)
  by_cases a : s[0] = 120
  · have HV := Lib.hid (show isX s.data.toList = true by unfold isX; rw [HH.out, a]; rfl)
    have b : ((s[0].toNat : Int) == 120) = true := by rw [a]; decide
    clear a
    go_enter Tryd.func70, Tryd.ntmps70
    go_wp2
    go_ret2
    exact CutXOut.yes HV.out
  have b : ((s[0].toNat : Int) == 120) = false := beqF _ 120 a
  by_cases c : s[0] = 88
  · have HV := Lib.hid (show isX s.data.toList = true by unfold isX; rw [HH.out, c]; rfl)
    have d : ((s[0].toNat : Int) == 88) = true := by rw [c]; decide
    clear a c
    go_enter Tryd.func70, Tryd.ntmps70
    go_wp2
    go_ret2
    exact CutXOut.yes HV.out
  · have HV := Lib.hid (show isX s.data.toList = false by unfold isX; rw [HH.out]; simp [a, c])
    have d : ((s[0].toNat : Int) == 88) = false := beqF _ 88 c
    clear a c
    go_enter Tryd.func70, Tryd.ntmps70
    go_wp2
    go_ret2
    exact CutXOut.no HV.out

/-- The number that a reference's name tells. -/
def numI (l : List UInt8) : Int := if l.head? = some 35 then sharp (l.drop 1) else -1
theorem pre35 (l : List UInt8) : ([35] : List UInt8).isPrefixOf l = decide (l.head? = some 35) := by
  cases l with
  | nil => rfl
  | cons c r =>
    rw [Bool.eq_iff_iff]
    simp [List.isPrefixOf]
    exact eq_comm
set_option maxRecDepth 100000 in
theorem numbered_any (s : ByteArray) (w : World) (hs : s.size ≤ 1000000) : Calls Tryd.prog 59 #[.string s] w fun e w' => e = .returned (.int .i64 (numI s.data.toList)) ∧ w = w' := by
  have hc := libCutPrefix s ⟨#[35]⟩ w
  rw [show (⟨#[35]⟩ : ByteArray).data.toList = [35] from rfl] at hc
  by_cases h : s.data.toList.head? = some 35
  · have hp : Lib.hasPrefix s.data.toList [35] = true := by unfold Lib.hasPrefix; rw [pre35, h]; rfl
    have ht : Lib.trimPrefix s.data.toList [35] = s.data.toList.drop 1 := by unfold Lib.trimPrefix; rw [hp]; rfl
    rw [hp, ht] at hc
    have HV := Lib.hid (show numI s.data.toList = sharp (s.data.toList.drop 1) by unfold numI; rw [if_pos h])
    clear h hp ht
    obtain ⟨t, ht⟩ : ∃ t : ByteArray, t = ⟨(s.data.toList.drop 1).toArray⟩ := ⟨_, rfl⟩
    rw [← ht] at hc
    have HL := Lib.hid (show s.data.toList.drop 1 = t.data.toList by rw [ht])
    have hts : t.size ≤ 1000000 := by rw [size_list t, ← HL.out, List.length_drop, ← size_list]; omega
    clear ht
    have hx := cutX_any t w hts
    have HX := Lib.hid (show isX t.data.toList = decide (t.data.toList.head? = some 120 ∨ t.data.toList.head? = some 88) from rfl)
    unfold CutXOut at hx
    cases hi : isX t.data.toList with
    | true =>
      rw [hi, if_pos rfl] at hx
      have HS := Lib.hid (show sharp t.data.toList = numP 16 6 (t.data.toList.drop 1) by
        unfold sharp; rw [if_pos]; have := HX.out; rw [hi] at this; exact of_decide_eq_true this.symm)
      have HD := Lib.hid (drop_extract t 1)
      have hn := number16_any (t.extract 1 t.size) 6 w (by omega)
      rw [HD.out] at hn
      clear hi
      go_enter Tryd.func59, Tryd.ntmps59
      go_wp2_with fail
      refine hc.mono ?_
      clear hc
      rintro e w' ⟨rfl, rfl⟩
      go_wp2_with fail
      refine hx.mono ?_
      clear hx
      rintro e w' ⟨rfl, rfl⟩
      go_wp2_with fail
      refine hn.mono ?_
      clear hn
      rintro e w' ⟨rfl, rfl⟩
      go_wp2
      go_ret
      exact ⟨ret_int (by rw [HV.out, HL.out, HS.out, List.drop_one]), rfl⟩
    | false =>
      rw [hi, if_neg (by decide)] at hx
      have HS := Lib.hid (show sharp t.data.toList = numP 10 7 t.data.toList by
        unfold sharp; rw [if_neg]; have := HX.out; rw [hi] at this; exact of_decide_eq_false this.symm)
      have hn := number10_any t 7 w (by omega)
      clear hi
      go_enter Tryd.func59, Tryd.ntmps59
      go_wp2_with fail
      refine hc.mono ?_
      clear hc
      rintro e w' ⟨rfl, rfl⟩
      go_wp2_with fail
      refine hx.mono ?_
      clear hx
      rintro e w' ⟨rfl, rfl⟩
      go_wp2_with fail
      refine hn.mono ?_
      clear hn
      rintro e w' ⟨rfl, rfl⟩
      go_wp2
      go_ret
      exact ⟨ret_int (by rw [HV.out, HL.out, HS.out]), rfl⟩
  · have hp : Lib.hasPrefix s.data.toList [35] = false := by unfold Lib.hasPrefix; rw [pre35, decide_eq_false h]
    rw [hp] at hc
    have HV := Lib.hid (show numI s.data.toList = -1 by unfold numI; rw [if_neg h])
    generalize Lib.trimPrefix s.data.toList [35] = t at hc
    clear h hp
    go_enter Tryd.func59, Tryd.ntmps59
    go_wp2_with fail
    refine hc.mono ?_
    clear hc
    rintro e w' ⟨rfl, rfl⟩
    go_wp2
    go_ret
    exact ⟨ret_int (by rw [HV.out]), rfl⟩
end Go.Proofs.YtoddghppbfehpaaDoor
