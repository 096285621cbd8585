/-
  Of the proofs of layer 7 (values of JSON): the parts EE EG EF PC. No conditions.
-/
import Derived.Test.YtchgelfomnbpaaaDoorZ10
import Derived.Test.YtchgelfomnbpaaaDoorZ08
namespace Go.Proofs.YtchgelfomnbpaaaDoor
open Go.RowKit
open Go.Lib

/-- The library's two tables, as they are laid. -/
def Tabs (w : World) : Prop := Lib.Utf8Tabs 0 1 w
theorem Tabs.below {w w' : World} (h : Tabs w) (hb : Below w.heap.size w w') : Tabs w' :=
  Utf8Tabs_below h hb
/-- The first code point of what stands in quotes and its width; -1: there is none. -/
def qpQ (l : List UInt8) : Int × Nat :=
  match l with
  | [] => (-1, 0)
  | c :: r => if c = 92 then escQ (c :: r) else if c.toNat < 32 ∨ c = 34 then (-1, 0) else (((decodeL (c :: r)).1 : Int), (decodeL (c :: r)).2)
theorem decodeL_zero (s : ByteArray) : Utf8.decode s 0 = decodeL s.data.toList := by
  have := decodeL_drop s 0
  simpa using this.symm
theorem decode_ascii (c : UInt8) (r : List UInt8) (h : c.toNat < 128) : decodeL (c :: r) = (c.toNat, 1) := by
  rw [decodeL_N]
  simp only [List.getD_cons_zero]
  simp [decodeN, h]
theorem unj_step (l : List UInt8) (hne : l ≠ []) (ht : IsTxt l) : (qpQ l = (-1, 0) ∧ unj l = none) ∨ (∃ (p : Int) (n : Nat), qpQ l = (p, n) ∧ isPt p = true ∧ 1 ≤ n ∧ n ≤ l.length ∧ unj l = (unj (l.drop n)).map (encodeRune p ++ ·) ∧ IsTxt (l.drop n)) := by
  match l, hne with
  | c :: r, _ =>
    by_cases h92 : c = 92
    · subst h92
      have e : qpQ (92 :: r) = escQ (92 :: r) := rfl
      rcases escQ_ok r with h | ⟨h1, h2, h3, _, h5⟩
      · exact .inl ⟨e.trans h, unj_none r (by rw [h]; decide)⟩
      · have h0 := ((isPt_iff _).1 h1).1
        exact .inr ⟨(escQ (92 :: r)).1, (escQ (92 :: r)).2, e, h1, by omega, h3, unj_esc r (by omega), isTxt_drop _ _ ht h5⟩
    · by_cases hb : c.toNat < 32 ∨ c = 34
      · exact .inl ⟨by simp only [qpQ, if_neg h92, if_pos hb], unj_bad c r hb⟩
      · by_cases ha : c.toNat < 128
        · refine .inr ⟨c.toNat, 1, ?_, isPt_ascii c ha, Nat.le_refl _, by simp, ?_, isTxt_drop 1 _ ht (fun d hd => ?_)⟩
          · simp only [qpQ, if_neg h92, if_neg hb, decode_ascii c r ha]
          · have := unj_pass r [c] (fun d hd => by rw [List.mem_singleton] at hd; subst hd; exact ⟨hb, h92⟩)
            rw [encodeRune_ascii _ (by omega) (by omega)]
            simpa using this
          · simp at hd; subst hd; exact ha
        · obtain ⟨z, hz, hz2, hd, hs, htx⟩ := isTxt_head c r ht (by omega)
          have hl := (encodeRune_length z).1
          have h0 := ((isPt_iff _).1 hz).1
          refine .inr ⟨z, (encodeRune z).length, ?_, hz, hl, ?_, ?_, htx⟩
          · simp only [qpQ, if_neg h92, if_neg hb, hd]
            congr 1
            omega
          · have := congrArg List.length hs
            rw [List.length_append] at this
            omega
          · have := unj_pass ((c :: r).drop (encodeRune z).length) (encodeRune z) (fun d hd => by
              have := encodeRune_high z hz hz2 d hd
              refine ⟨?_, ?_⟩
              · rintro (h | h)
                · omega
                · subst h; exact absurd this (by decide)
              · rintro rfl; exact absurd this (by decide))
            rw [← hs] at this
            exact this
/-- Two results, memory above alone touched. -/
def TwoB (p : Int) (n : Nat) (w : World) (e : Ending) (w' : World) : Prop := e = .returned (.tuple #[.int .i32 p, .int .i64 n]) ∧ Below w.heap.size w w'
theorem TwoB.mk {p q : Int} {n m : Nat} {w w' : World} (h : p = q) (g : n = m) (hb : Below w.heap.size w w') : TwoB q m w (.returned (.tuple #[.int .i32 p, .int .i64 n])) w' := by subst h; subst g; exact ⟨rfl, hb⟩
set_option maxRecDepth 100000 in
theorem quotedPoint_any (s : ByteArray) (w : World) (hs : s.size ≤ 2000000) (h0 : 0 < s.size) (hT : Tabs w) : Calls Tryd.prog 89 #[.string s] w (TwoB (p0 (qpQ s.data.toList)) (n0 (qpQ s.data.toList)) w) := by
  have hd := libDecode s w hT
  have HG := Lib.hid (show Lib.decodeGo s = decodeL s.data.toList by
    rw [← decodeL_zero]; unfold Lib.decodeGo; rw [if_neg (by omega)])
  rw [HG.out] at hd
  have HT := Lib.hid hT
  clear hT HG
  have hc := escaped_any s w hs
  have HL : Hid (s.data.toList = s[0] :: s.data.toList.drop 1) := by
    show _ = _
    have := List.drop_eq_getElem_cons (l := s.data.toList) (i := 0) (by simpa using h0)
    rw [List.drop_zero] at this
    exact this
  by_cases a : s[0] = 92
  · have HV := Lib.hid (show qpQ s.data.toList = escQ s.data.toList by rw [HL.out, a]; rfl)
    have b : ((s[0].toNat : Int) == 92) = true := by rw [a]; decide
    clear a hd
    generalize escQ s.data.toList = q at *
    go_enter Tryd.func89, Tryd.ntmps89
    go_wp2_with fail
    refine hc.mono ?_
    clear hc
    rintro e w' ⟨rfl, rfl⟩
    go_wp2
    go_ret2
    exact TwoB.mk (by rw [HV.out]) (by rw [HV.out]) (Below.refl _ _)
  have b : ((s[0].toNat : Int) == 92) = false := beqF _ 92 a
  by_cases c : s[0] = 34
  · have HV := Lib.hid (show qpQ s.data.toList = (-1, 0) by rw [HL.out]; simp only [qpQ]; rw [if_neg a, if_pos (.inr c)])
    have d : ((s[0].toNat : Int) == 34) = true := by rw [c]; decide
    clear a c hd hc
    go_enter Tryd.func89, Tryd.ntmps89
    go_wp2
    go_ret2
    exact TwoB.mk (by rw [HV.out]; rfl) (by rw [HV.out]; rfl) (Below.refl _ _)
  have d : ((s[0].toNat : Int) == 34) = false := beqF _ 34 c
  by_cases k : s[0].toNat < 32
  · have HV := Lib.hid (show qpQ s.data.toList = (-1, 0) by rw [HL.out]; simp only [qpQ]; rw [if_neg a, if_pos (.inl k)])
    clear a c hd hc
    go_enter Tryd.func89, Tryd.ntmps89
    go_wp2
    go_ret2
    exact TwoB.mk (by rw [HV.out]; rfl) (by rw [HV.out]; rfl) (Below.refl _ _)
  · have HV := Lib.hid (show qpQ s.data.toList = (((decodeL s.data.toList).1 : Int), (decodeL s.data.toList).2) by
      rw [HL.out]; simp only [qpQ]; rw [if_neg a, if_neg (by rintro (h | h); exact k h; exact c h)])
    have k2 : 32 ≤ s[0].toNat := by omega
    clear a c hc k
    generalize decodeL s.data.toList = q at *
    go_enter Tryd.func89, Tryd.ntmps89
    go_wp2_with fail
    refine hd.mono ?_
    clear hd
    rintro e w' ⟨rfl, hb⟩
    go_wp2
    go_ret2
    refine TwoB.mk ?_ ?_ hb
    · rw [HV.out]; unfold p0; rw [if_neg]; simp only; omega
    · rw [HV.out]; unfold n0; rw [if_neg]; simp only; omega
end Go.Proofs.YtchgelfomnbpaaaDoor
namespace Go.Proofs.YtchgelfomnbpaaaDoor
open Go.RowKit
open Go.Lib

def strLen (v : Value) : Nat := match v with | .string r => r.size | _ => 0
/-- A builder is kept through what a callee makes. -/
theorem bf_below {T e : TypeId} {B b : Nat} {bs : List Value} {w w' : World} (h : Lib.IsBuilderF T e B b bs w) (hb : Below w.heap.size w w') : Lib.IsBuilderF T e B b bs w' := by
  have one : ∀ {p : Value}, Lib.BuilderAtF T e B b p bs w → Lib.BuilderAtF T e B b p bs w' := by
    intro p h
    have hlt := h.lt
    obtain ⟨h1, v, hv, hown, h2⟩ := h
    refine ⟨h1, v, ?_, ?_, h2⟩
    · rw [hb.block b hlt]; exact hv
    · refine hown.kept (row := none) ⟨hb.os, hb.tape, hb.output, hb.size, fun k hk _ => hb.block k hk⟩ (Classical.em _)
  rcases h with h | h
  · exact .inl (one h)
  · exact .inr (one h)
theorem byteCells_rune (a : List UInt8) (p : Int) : byteCells a ++ runeCells p = byteCells (a ++ encodeRune p) := by
  rw [byteCells_append, ← byteCells_encodeRune]
theorem take_extract (s : ByteArray) (k : Nat) : (s.extract 0 k).data.toList = s.data.toList.take k := by
  simp [ByteArray.data_extract]
theorem index_at {s : ByteArray} {c : UInt8} {i : Nat} (h : Lib.indexByte s.data.toList c = i) : i < s.size ∧ s.data.toList = s.data.toList.take i ++ c :: s.data.toList.drop (i + 1) ∧ c ∉ s.data.toList.take i := by
  obtain ⟨h1, h2⟩ := Lib.indexByte_some h
  have hl : i < s.data.toList.length := (List.getElem?_eq_some_iff.1 h1).1
  have hg : s.data.toList[i] = c := (List.getElem?_eq_some_iff.1 h1).2
  refine ⟨by rw [size_list]; exact hl, ?_, ?_⟩
  · have := List.drop_eq_getElem_cons hl
    rw [hg] at this
    rw [← this, List.take_append_drop]
  · intro hm
    obtain ⟨k, hk, he⟩ := List.getElem_of_mem hm
    rw [List.length_take] at hk
    rw [List.getElem_take] at he
    exact h2 k (by omega) (by rw [List.getElem?_eq_getElem (by omega), he])
theorem index_not {l : List UInt8} {c : UInt8} (h : Lib.indexByte l c = -1) : c ∉ l := by
  intro hm
  obtain ⟨k, hk, he⟩ := List.getElem_of_mem hm
  exact Lib.indexByte_none h k (by rw [List.getElem?_eq_getElem hk, he])
theorem index_or (l : List UInt8) (c : UInt8) : Lib.indexByte l c = -1 ∨ ∃ i : Nat, Lib.indexByte l c = i := by
  have := Lib.indexByte_ge l c
  by_cases h : Lib.indexByte l c = -1
  · exact .inl h
  · exact .inr ⟨(Lib.indexByte l c).toNat, by omega⟩
/-- What a cut leaves. -/
def CutOut (a b : ByteArray) (ok : Bool) (w : World) (e : Ending) (w' : World) : Prop := e = .returned (.tuple #[.string a, .string b, .bool ok]) ∧ Below w.heap.size w w'
/-- Behind an x or an X. -/
def isX (l : List UInt8) : Bool := decide (l.head? = some 120 ∨ l.head? = some 88)
theorem head_at (s : ByteArray) (h : 0 < s.size) : s.data.toList.head? = some s[0] := by
  rw [List.head?_eq_getElem?]; exact getE? s 0 h
def CutXOut (s : ByteArray) (w : World) (e : Ending) (w' : World) : Prop := e = .returned (.tuple #[.string (if isX s.data.toList = true then s.extract 1 s.size else ⟨#[]⟩), .bool (isX s.data.toList)]) ∧ w = w'
theorem CutXOut.yes {s : ByteArray} {w : World} (h : isX s.data.toList = true) : CutXOut s w (.returned (.tuple #[.string (s.extract 1 s.size), .bool true])) w := by
  unfold CutXOut; rw [h]; exact ⟨rfl, rfl⟩
theorem CutXOut.no {s : ByteArray} {w : World} (h : isX s.data.toList = false) : CutXOut s w (.returned (.tuple #[.string ⟨#[]⟩, .bool false])) w := by
  unfold CutXOut; rw [h]; exact ⟨rfl, rfl⟩
/-- The number that a reference's name tells. -/
def numI (l : List UInt8) : Int := if l.head? = some 35 then sharp (l.drop 1) else -1
theorem pre35 (l : List UInt8) : ([35] : List UInt8).isPrefixOf l = decide (l.head? = some 35) := by
  cases l with
  | nil => rfl
  | cons c r =>
    rw [Bool.eq_iff_iff]
    simp [List.isPrefixOf]
    exact eq_comm
end Go.Proofs.YtchgelfomnbpaaaDoor
namespace Go.Proofs.YtchgelfomnbpaaaDoor
open Go.RowKit
open Go.Lib

/-- What Unjson answers. -/
def unjson (l : List UInt8) : Option (List UInt8) := if quoted l = true ∧ validD l = true then unj ((l.drop 1).take (l.length - 2)) else none
def UnjOut (o : Option (List UInt8)) (w : World) (e : Ending) (w' : World) : Prop :=
  e = .returned (.tuple #[.string ⟨(o.getD []).toArray⟩, .int .i64 (if o.isSome = true then 0 else 20)]) ∧ Below w.heap.size w w'
theorem UnjOut.bad {o : Option (List UInt8)} {w w' : World} (h : o = none) (hb : Below w.heap.size w w') : UnjOut o w (.returned (.tuple #[.string ⟨#[]⟩, .int .i64 20])) w' := by
  subst h; exact ⟨rfl, hb⟩
theorem UnjOut.good {o : Option (List UInt8)} {l : List UInt8} {w w' : World} (h : o = some l) (hb : Below w.heap.size w w') : UnjOut o w (.returned (.tuple #[.string ⟨l.toArray⟩, .int .i64 0])) w' := by
  subst h; exact ⟨rfl, hb⟩
theorem quoted_inner (l : List UInt8) (hq : quoted l = true) (hv : validD l = true) : IsTxt ((l.drop 1).take (l.length - 2)) := by
  have hq : 2 ≤ l.length ∧ l[0]? = some 34 ∧ l[l.length - 1]? = some 34 := by simpa [quoted] using hq
  obtain ⟨h2, h0, h1⟩ := hq
  have ht := isTxt_of_valid l hv
  match l, h0 with
  | c :: r, h0 =>
    simp at h0
    subst h0
    have hr := isTxt_drop 1 _ ht (fun d hd => by simp at hd; subst hd; decide)
    simp only [List.drop_succ_cons, List.drop_zero, List.length_cons] at *
    have hlen : r.length - 1 + 1 = r.length := by omega
    have e : r = r.take (r.length - 1) ++ [34] := by
      have h := List.take_succ_eq_append_getElem (l := r) (i := r.length - 1) (by omega)
      rw [hlen, List.take_length] at h
      have h1' : r[r.length - 1]? = some 34 := by
        have : (34 :: r)[r.length + 1 - 1]? = some 34 := h1
        rw [show r.length + 1 - 1 = (r.length - 1) + 1 by omega, List.getElem?_cons_succ] at this
        exact this
      have h2' : r[r.length - 1]'(by omega) = 34 := by
        rw [List.getElem?_eq_getElem (by omega)] at h1'
        exact Option.some.inj h1'
      rw [h2'] at h
      exact h
    rw [show r.length + 1 - 2 = r.length - 1 by omega]
    exact isTxt_front _ 34 (by decide) (by rw [← e]; exact hr)
theorem inner_extract (s : ByteArray) : (s.extract 1 (s.size - 1)).data.toList = (s.data.toList.drop 1).take (s.data.toList.length - 2) := by
  rw [← size_list]
  simp only [ByteArray.data_extract, Array.toList_extract, List.extract_eq_take_drop]
  congr 1
theorem map_app (o : Option (List UInt8)) (a b : List UInt8) : (o.map (b ++ ·)).map (a ++ ·) = o.map ((a ++ b) ++ ·) := by
  cases o <;> simp
set_option maxRecDepth 100000 in
set_option maxHeartbeats 2000000 in
theorem unjson_any (s : ByteArray) (w : World) (hs : s.size ≤ 2000000) (hT : Tabs w) : Calls Tryd.prog 70 #[.string s] w (UnjOut (unjson s.data.toList) w) := by
  have hq := isQuoted_any s w hs
  have hv := uvalid_any s w hs hT
  have HT := Lib.hid hT
  clear hT
  cases cq : quoted s.data.toList with
  | false =>
    have HV := Lib.hid (show unjson s.data.toList = none by unfold unjson; rw [cq, if_neg (by simp)])
    rw [cq] at hq
    clear cq hv
    go_enter Tryd.func70, Tryd.ntmps70
    go_wp2_with fail
    refine hq.mono ?_
    clear hq
    rintro e w' ⟨rfl, rfl⟩
    go_wp2
    go_ret2
    exact UnjOut.bad HV.out (Below.refl _ _)
  | true =>
    rw [cq] at hq
    cases cv : validD s.data.toList with
    | false =>
      have HV := Lib.hid (show unjson s.data.toList = none by unfold unjson; rw [cv, if_neg (by simp)])
      rw [cv] at hv
      clear cv cq
      go_enter Tryd.func70, Tryd.ntmps70
      go_wp2_with fail
      refine hq.mono ?_
      clear hq
      rintro e w' ⟨rfl, rfl⟩
      go_wp2_with fail
      refine hv.mono ?_
      clear hv
      rintro e w1 ⟨rfl, b1⟩
      go_wp2
      go_ret2
      exact UnjOut.bad HV.out b1
    | true =>
      have HV := Lib.hid (show unjson s.data.toList = unj (s.extract 1 (s.size - 1)).data.toList by unfold unjson; rw [cq, cv, if_pos ⟨rfl, rfl⟩, inner_extract])
      have HX := Lib.hid (show IsTxt (s.extract 1 (s.size - 1)).data.toList by rw [inner_extract]; exact quoted_inner _ cq cv)
      rw [cv] at hv
      have h2 : 2 ≤ s.size := by
        have h := cq
        unfold quoted at h
        rw [decide_eq_true_eq, ← size_list] at h
        exact h.1
      have hts : (s.extract 1 (s.size - 1)).size ≤ 2000000 := by simp; omega
      obtain ⟨n, hn⟩ : ∃ n, s.size = n + 1 := ⟨s.size - 1, by omega⟩
      have hix : ((s.size : Nat) : Int) - 1 = (n : Nat) := by omega
      have hn1 : 1 ≤ n := by omega
      have hn2 : n ≤ s.size := by omega
      have hnn : s.size - 1 = n := by omega
      rw [hnn] at HV HX hts
      have Hn := Lib.hid hn
      clear cv cq hn hnn
      have hsl : ∀ W, (Instr.slice 9 (.string s) (some (.int .i64 1)) (some (.int .i64 (n : Int))) none).run Tryd.prog W = .ok (.string (s.extract 1 n)) W := fun W =>
        run_slice_string W 9 s .i64 .i64 1 n Tryd.underlying9 (by omega) (by omega) (by omega)
      generalize s.extract 1 n = t at *
      go_enter Tryd.func70, Tryd.ntmps70
      go_wp2_with fail
      refine hq.mono ?_
      clear hq
      rintro e w' ⟨rfl, rfl⟩
      go_wp2_with fail
      refine hv.mono ?_
      clear hv
      rintro e w1 ⟨rfl, b1⟩
      have HT1 := Lib.hid (HT.out.below b1)
      go_wp2
      go_loopw [5] (fun v wr => ∃ (r : ByteArray) (acc : List UInt8), v = .string r ∧ r.size ≤ 2000000 ∧ Lib.IsBuilderF 61 5 w1.heap.size w1.heap.size (byteCells acc) wr ∧ Below w1.heap.size w1 wr ∧ w1.heap.size < wr.heap.size ∧ acc.length + 4 * r.size ≤ 8000000 ∧ Hid (IsTxt r.data.toList) ∧ Hid ((unj r.data.toList).map (acc ++ ·) = unj t.data.toList)) (fun v _ => strLen v)
      case atStart => exact ⟨t, [], rfl, hts, Lib.IsBuilderF.of (Lib.fresh_isBuilder 61 5 w1), (Below.refl _ w1).alloc (Nat.le_refl _) _, by simp, by simp; omega, HX, by simp [Hid]⟩
      case round =>
        obtain ⟨r, acc, rfl, hr, hI, hbw, hbsz, hal, htx, hac⟩ := hrel
        by_cases hz : r.size = 0
        · obtain rfl := empty_of r hz
          clear hz
          go_wp2_with fail
          refine (sbString w1.heap.size w1.heap.size acc _ hI (by omega)).mono ?_
          rintro e W1 ⟨rfl, _, b2, _⟩
          go_wp2
          go_ret2
          refine UnjOut.good ?_ (b1.trans ((hbw.trans b2).mono b1.size))
          rw [HV.out, ← hac.out]
          show (unj []).map _ = _
          simp [unj_nil]
        · have hp : 0 < r.size := by omega
          clear hz
          have hne := list_ne r hp
          have hne2 : (r.toList == ([] : List UInt8)) = false := by simpa using hne
          have hne3 : (r.toList != ([] : List UInt8)) = true := by simpa using hne
          have hqp := quotedPoint_any r wr hr hp (HT1.out.below hbw)
          have HS := Lib.hid (unj_step r.data.toList (by rw [← Lib.toList_data]; exact hne) htx.out)
          rcases HS.out with ⟨q1, q2⟩ | ⟨p, m, q1, q2, q3, q4, q5, q6⟩
          · have HN := Lib.hid (show unjson s.data.toList = none by rw [HV.out, ← hac.out, q2]; rfl)
            rw [q1, show p0 (-1, 0) = 0 from rfl, show n0 (-1, 0) = 0 from rfl] at hqp
            clear q1 q2 HS
            go_wp2_with fail
            refine hqp.mono ?_
            clear hqp
            rintro e w2 ⟨rfl, b2⟩
            go_wp2
            go_ret2
            exact UnjOut.bad HN.out (b1.trans ((hbw.trans (b2.mono (by omega))).mono b1.size))
          · obtain ⟨g0, g1, g2⟩ := (isPt_iff p).1 q2
            rw [q1, show p0 (p, m) = p from if_neg (by show ¬ p < 0; omega), show n0 (p, m) = m from if_neg (by show ¬ p < 0; omega)] at hqp
            rw [← size_list] at q4
            have H2 := Lib.hid (show (unj (r.extract m r.size).data.toList).map ((acc ++ encodeRune p) ++ ·) = unj t.data.toList by rw [drop_extract, ← map_app, ← q5, hac.out])
            have H3 := Lib.hid (show IsTxt (r.extract m r.size).data.toList by rw [drop_extract]; exact q6)
            have hsz : (r.extract m r.size).size = r.size - m := by simp
            have HZ := Lib.hid hsz
            have hel := (encodeRune_length p).2
            clear q1 q2 q5 q6 HS g2 hsz
            go_wp2_with fail
            refine hqp.mono ?_
            clear hqp
            rintro e w2 ⟨rfl, b2⟩
            have hm0 : ((m : Int) == 0) = false := by rw [beq_eq_false_iff_ne]; omega
            have hI2 := bf_below hI b2
            have hbz := b2.size
            have hr2 := sbRune w1.heap.size w1.heap.size _ p (by omega) (by omega) w2 hI2 (by rw [Lib.byteCells_length]; omega) (by omega)
            rw [byteCells_rune] at hr2
            go_wp2_with fail
            refine hr2.mono ?_
            clear hr2
            rintro e w3 ⟨rfl, h1, b3, k3⟩
            have hbz3 := b3.size
            go_wp2
            go_roundw
            case rel => exact ⟨r.extract m r.size, acc ++ encodeRune p, rfl, by rw [HZ.out]; omega, Or.inr h1, (hbw.trans (b2.mono (by omega))).trans b3, by omega, by rw [List.length_append, HZ.out]; omega, H3, H2⟩
            case measure => show (r.extract m r.size).size < r.size; rw [HZ.out]; omega
end Go.Proofs.YtchgelfomnbpaaaDoor
namespace Go.Proofs.YtchgelfomnbpaaaDoor
open Go.RowKit
open Go.Lib

theorem Tabs.off {F : Nat → Prop} {w w' : World} (h : Tabs w) (ho : Off F w w') (h0 : ¬ F 0) (h1 : ¬ F 1) : Tabs w' :=
  ⟨fun c hc => ho.cell (h.1 c hc) h0, fun i hi => ⟨ho.cell (h.2 i hi).1 h1, ho.cell (h.2 i hi).2 h1⟩⟩
/-- No table's block. -/
def NoTab (X : Nat) : Prop := ¬ 0 = X ∧ ¬ 1 = X
theorem Tabs.lt {w : World} (h : Tabs w) : 0 < w.heap.size ∧ 1 < w.heap.size := ⟨World.block_lt_of_cell? w _ (h.1 0 (by decide)), World.block_lt_of_cell? w _ (h.2 0 (by decide)).1⟩
theorem NoTab.new {w : World} (h : Tabs w) {X : Nat} (hX : w.heap.size ≤ X) : NoTab X := by
  obtain ⟨h1, h2⟩ := h.lt
  exact ⟨by omega, by omega⟩
abbrev TRd : TypeId := 53
/-- The program's reader at block X: what isn't read yet, how many are open. -/
structure PS (X : Nat) (s : Bt) (d : Nat) (w : World) : Prop where
  blk : Blk X (.cells #[.string (bs s), .int .i64 d] TRd (0, 0)) w
  tabs : Tabs w
  no : NoTab X
section
variable {X : Nat} {s : Bt} {d : Nat} {w w' : World}
theorem PS.c0 (h : PS X s d w) : w.cell? ⟨X, 0, none⟩ = some (.string (bs s)) := Blk.cell h.blk 0
theorem PS.c1 (h : PS X s d w) : w.cell? ⟨X, 1, none⟩ = some (.int .i64 d) := Blk.cell h.blk 1
theorem PS.free (h : PS X s d w) (j : Nat) : w.frozen? ⟨X, j, none⟩ = false := Blk.free h.blk j
theorem PS.off {F : Nat → Prop} (h : PS X s d w) (ho : Off F w w') (hX : ¬ F X) (h0 : ¬ F 0) (h1 : ¬ F 1) : PS X s d w' := ⟨ho.blk h.blk hX, h.tabs.off ho h0 h1, h.no⟩
theorem PS.below (h : PS X s d w) (hb : Below w.heap.size w w') : PS X s d w' := h.off (Off.of_below hb) (fun h => h) (fun h => h) (fun h => h)
theorem PS.set0 (h : PS X s d w) (r : Bt) : PS X r d (w.setCell ⟨X, 0, none⟩ (.string (bs r))) := ⟨Blk.set h.blk 0 (.string (bs r)), h.tabs.off (off_set7 w X 0 (.string (bs r))) h.no.1 h.no.2, h.no⟩
theorem PS.set1 (h : PS X s d w) (e : Nat) : PS X s e (w.setCell ⟨X, 1, none⟩ (.int .i64 e)) := ⟨Blk.set h.blk 1 (.int .i64 e), h.tabs.off (off_set7 w X 1 (.int .i64 e)) h.no.1 h.no.2, h.no⟩
theorem PS.drewN (h : PS X s d w) (n : Nat) : PS X s d (w.drewN n) := h.below (below_drewN (Below.refl _ _) n)
theorem PS.lt (h : PS X s d w) : X < w.heap.size := h.blk.lt
end
theorem white_mem (c : UInt8) : ([32, 9, 10, 13] : Bt).contains c = isBl c := by
  have h : ∀ n : Nat, n < 256 → ([32, 9, 10, 13] : Bt).contains (UInt8.ofNat n) = isBl (UInt8.ofNat n) := by decide +kernel
  have := h c.toNat (UInt8.toNat_lt c)
  rw [UInt8.ofNat_toNat] at this
  exact this
theorem trim_white (s : Bt) (W : World) : Calls Tryd.prog 56 #[.string (bs s), .string ⟨#[32, 9, 10, 13]⟩] W fun e w' => e = .returned (.string (bs (blanksL s))) ∧ Below W.heap.size W w' := by
  have h := libTrimLeft (bs s) (bs [32, 9, 10, 13]) W (by decide) (by
    intro j b h
    rw [bs_list] at h
    have := List.mem_of_getElem? h
    have hall : ∀ c ∈ ([32, 9, 10, 13] : Bt), c.toNat < 128 := by decide
    exact hall b this)
  rw [bs_list, bs_list] at h
  have e : Lib.trimLeftS s [32, 9, 10, 13] = blanksL s := by
    unfold Lib.trimLeftS blanksL
    rw [show (fun x => ([32, 9, 10, 13] : Bt).contains x) = isBl from funext white_mem]
  rw [e] at h
  exact h
set_option maxRecDepth 100000 in
theorem pskip_any {X : Nat} {s t : Bt} {d : Nat} {w : World} (h : PS X s d w) (ht : blanksL s = t) :
    Calls Tryd.prog 35 #[.pointer (some ⟨X, 0, none⟩)] w fun e w' => e = .returned (.tuple #[]) ∧ PS X t d w' ∧ Off (fun b => b = X) w w' := by
  have HT := Lib.hid (fun W => trim_white s W)
  rw [ht] at HT
  have c0 := h.c0
  have H0 := Lib.hid h
  clear h ht
  go_enter Tryd.func35, Tryd.ntmps35
  go_wp2_with (go_at_call 56; (with_reducible refine (HT.out _).mono ?_); rintro e w1 ⟨rfl, b1⟩
               have h1 := H0.out.below b1
               have z0 := h1.c0
               have zf := h1.free 0
               have H1 := Lib.hid (h1.set0 t)
               have HO := Lib.hid (((Off.of_below b1).mono (fun _ h => h.elim)).trans (off_set7 w1 X 0 (.string (bs t))) (fun _ h => .inl h))
               clear h1)
  go_end0
  exact ⟨rfl, H1.out, HO.out⟩
theorem cut_word (s wd : Bt) (W : World) : Calls Tryd.prog 67 #[.string (bs s), .string (bs wd)] W fun e w' => e = .returned (.tuple #[.string (bs (if wd.isPrefixOf s then s.drop wd.length else s)), .bool (wd.isPrefixOf s)]) ∧ w' = W := by
  have h := libCutPre (bs s) (bs wd) W
  rw [bs_list, bs_list] at h
  exact h
set_option maxRecDepth 100000 in
theorem ptake_any {X : Nat} {s t r : Bt} {d : Nat} {w : World} (h : PS X s d w) (ht : blanksL s = t) (wd : Bt) (ob : Bool) (hob : wd.isPrefixOf t = ob) (hr : (if ob then t.drop wd.length else t) = r) :
    Calls Tryd.prog 52 #[.pointer (some ⟨X, 0, none⟩), .string (bs wd)] w fun e w' => e = .returned (.bool ob) ∧ PS X r d w' ∧ Off (fun b => b = X) w w' := by
  have HSK : Hid (∀ W, PS X s d W → Calls Tryd.prog 35 #[.pointer (some ⟨X, 0, none⟩)] W fun e w' => e = .returned (.tuple #[]) ∧ PS X t d w' ∧ Off (fun b => b = X) W w') := Lib.hid (fun W hW => pskip_any hW ht)
  have HC := Lib.hid (fun W => cut_word t wd W)
  rw [hob, hr] at HC
  have H0 := Lib.hid h
  obtain ⟨S, hS⟩ : ∃ S, bs wd = S := ⟨_, rfl⟩
  rw [hS] at HC ⊢
  clear h ht hob hr hS
  go_enter Tryd.func52, Tryd.ntmps52
  go_wp2_with (first
    | (go_at_call 35; (with_reducible refine (HSK.out _ H0.out).mono ?_); rintro e w1 ⟨rfl, h1, o1⟩
       have c0 := h1.c0
       have H1 := Lib.hid h1
       have HO := Lib.hid (o1.trans (off_set7 w1 X 0 (.string (bs r))) (fun _ h => .inl h))
       have zf := h1.free 0
       have H2 := Lib.hid (h1.set0 r)
       clear h1 o1)
    | (go_at_call 67; (with_reducible refine (HC.out _).mono ?_); rintro e w2 ⟨rfl, rfl⟩))
  go_ret
  exact ⟨rfl, H2.out, HO.out⟩
/-! ### Texts in quotes -/
theorem unjson_nil : unjson [] = none := rfl
theorem unjson_q (a : Bt) : unjson (34 :: a ++ [34]) = unjq a := by
  have hq : quoted (34 :: a ++ [34]) = true := by
    unfold quoted
    simp
  unfold unjson unjq
  rw [hq]
  have e : (List.drop 1 (34 :: a ++ [34])).take ((34 :: a ++ [34]).length - 2) = a := by
    simp
  rw [e]
  simp
theorem slice_front (s : Bt) (k : Nat) (z : Int) (hz : (k : Int) = z) (h : k ≤ s.length) (r : Bt) (hr : s.take k = r) (W : World) : (Instr.slice 9 (.string (bs s)) none (some (.int .i64 z)) none).run Tryd.prog W = .ok (.string (bs r)) W := by
  subst hz hr
  have hsz := bs_size s
  refine (run_slice_string_h (P := Tryd.prog) W 9 (bs s) Tryd.underlying9 .i64 (k : Int) (by omega) (by omega)).trans ?_
  congr 2
  apply ByteArray.ext
  apply Array.ext'
  rw [show ((k : Int)).toNat = k from by omega]
  unfold bs
  simp [ByteArray.data_extract]
theorem text_qw (t : Bt) : qwL t ≤ t.length ∧ (∀ x r, textL t = some (x, r) → unjson (t.take (qwL t)) = some x ∧ t.drop (qwL t) = r) ∧ (textL t = none → unjson (t.take (qwL t)) = none) := by
  cases t with
  | nil => exact ⟨Nat.le_refl _, ⟨fun x r h => (by cases h), fun _ => rfl⟩⟩
  | cons c u =>
    by_cases hc : c = 34
    · subst hc
      cases hs : scanQ u with
      | none =>
        have hq : qwL (34 :: u) = 0 := by unfold qwL; simp only [if_pos, hs]
        have ht : textL (34 :: u) = none := by unfold textL; simp only [if_pos, hs]
        rw [hq]
        refine ⟨Nat.zero_le _, fun x r h => ?_, fun _ => rfl⟩
        rw [ht] at h; cases h
      | some y =>
        obtain ⟨a, b⟩ := y
        have hl := scan_len u a b hs
        have hq : qwL (34 :: u) = a.length + 2 := by unfold qwL; simp only [if_pos, hs]
        have ht : textL (34 :: u) = (unjq a).map fun x => (x, b) := by unfold textL; simp only [if_pos, hs]
        have htk : (34 :: u).take (a.length + 2) = 34 :: a ++ [34] := by
          rw [hl]
          show 34 :: (a ++ 34 :: b).take (a.length + 1) = 34 :: (a ++ [34])
          rw [show a ++ 34 :: b = (a ++ [34]) ++ b by simp, List.take_append_of_le_length (by simp), List.take_of_length_le (by simp)]
        have hdr : (34 :: u).drop (a.length + 2) = b := by
          rw [hl]
          show (a ++ 34 :: b).drop (a.length + 1) = b
          rw [show a ++ 34 :: b = (a ++ [34]) ++ b by simp, List.drop_append_of_le_length (by simp), List.drop_of_length_le (by simp)]
          rfl
        rw [hq, ht, htk, hdr, unjson_q]
        refine ⟨by rw [hl]; simp, fun x r h => ?_, fun h => ?_⟩
        · cases hu : unjq a with
          | none => rw [hu] at h; cases h
          | some y => rw [hu] at h; cases h; exact ⟨rfl, rfl⟩
        · cases hu : unjq a with
          | none => rfl
          | some y => rw [hu] at h; cases h
    · have hq : qwL (c :: u) = 0 := by unfold qwL; exact if_neg hc
      have ht : textL (c :: u) = none := by unfold textL; exact if_neg hc
      rw [hq]
      refine ⟨Nat.zero_le _, fun x r h => ?_, fun _ => rfl⟩
      rw [ht] at h; cases h
set_option maxRecDepth 100000 in
set_option maxHeartbeats 1000000 in
theorem ptext_any {X : Nat} {s t : Bt} {d : Nat} {w : World} (h : PS X s d w) (ht : blanksL s = t) (hs : t.length ≤ 100000) :
    Calls Tryd.prog 55 #[.pointer (some ⟨X, 0, none⟩)] w fun e w' => ∃ x ok r, e = .returned (.tuple #[.string (bs x), .bool ok]) ∧ textL t = (if ok then some (x, r) else none) ∧ PS X r d w' ∧ Off (fun b => b = X) w w' := by
  have HSK : Hid (∀ W, PS X s d W → Calls Tryd.prog 35 #[.pointer (some ⟨X, 0, none⟩)] W fun e w' => e = .returned (.tuple #[]) ∧ PS X t d w' ∧ Off (fun b => b = X) W w') := Lib.hid (fun W hW => pskip_any hW ht)
  have HW := Lib.hid (fun W => qwidth_any t W (by omega))
  obtain ⟨hq1, hq2, hq3⟩ := text_qw t
  obtain ⟨q, hq⟩ : ∃ q, qwL t = q := ⟨_, rfl⟩
  rw [hq] at HW hq1 hq2 hq3
  obtain ⟨y, hy⟩ : ∃ y, t.take q = y := ⟨_, rfl⟩
  obtain ⟨r, hr⟩ : ∃ y, t.drop q = y := ⟨_, rfl⟩
  rw [hy] at hq2 hq3
  rw [hr] at hq2
  have hsl1 := slice_front t q q rfl hq1 y hy
  have hsl2 := slice_tail t q q rfl hq1 r hr
  have hyl : y.length ≤ t.length := by rw [← hy, List.length_take]; omega
  have HU : Hid (∀ W, Tabs W → Calls Tryd.prog 70 #[.string (bs y)] W (UnjOut (unjson y) W)) := Lib.hid (fun W hW => by
    have := unjson_any (bs y) W (by rw [bs_size]; omega) hW
    rw [bs_list] at this
    exact this)
  have hsz : (bs t).size = t.length := bs_size t
  obtain ⟨n, hn⟩ : ∃ n, t.length = n := ⟨_, rfl⟩
  rw [hn] at hsz hq1
  have i1' : (0 : Int) ≤ (q : Int) := by omega
  have i2' : (q : Int) ≤ (n : Int) := by omega
  have H0 := Lib.hid h
  have HQ2 := Lib.hid hq2
  have HQ3 := Lib.hid hq3
  clear h ht hq hy hr hq2 hq3 hyl hn hs
  cases hu : unjson y with
  | none =>
    rw [hu] at HU
    have HE : Hid (textL t = none) := Lib.hid (by
      cases hx : textL t with
      | none => rfl
      | some z => obtain ⟨x', r'⟩ := z; have := (HQ2.out x' r' hx).1; rw [hu] at this; cases this)
    clear hu
    go_enter Tryd.func55, Tryd.ntmps55
    go_wp2_with (first
      | (go_at_call 35; (with_reducible refine (HSK.out _ H0.out).mono ?_); rintro e w1 ⟨rfl, h1, o1⟩
         have c0 := h1.c0
         have H1 := Lib.hid h1
         have HO1 := Lib.hid o1
         clear h1 o1)
      | (go_at_call 69; (with_reducible refine (HW.out _).mono ?_); rintro e w2 ⟨rfl, rfl⟩)
      | (go_at_call 70; (with_reducible refine (HU.out _ H1.out.tabs).mono ?_); rintro e w3 ⟨rfl, b3⟩
         have h3 := H1.out.below b3
         have d0 := h3.c0
         have zf := h3.free 0
         have H3 := Lib.hid (h3.set0 r)
         have HO := Lib.hid ((HO1.out.trans (Off.of_below b3) (fun _ h => h.elim)).trans (off_set7 w3 X 0 (.string (bs r))) (fun _ h => .inl h))
         clear h3))
    go_ret2
    exact ⟨[], false, r, rfl, HE.out, H3.out, HO.out⟩
  | some x =>
    rw [hu] at HU
    have HE : Hid (textL t = some (x, r)) := Lib.hid (by
      cases hx : textL t with
      | none => have := HQ3.out hx; rw [hu] at this; cases this
      | some z =>
        obtain ⟨x', r'⟩ := z
        have h := HQ2.out x' r' hx
        rw [hu] at h
        rw [Option.some.inj h.1, h.2])
    clear hu
    go_enter Tryd.func55, Tryd.ntmps55
    go_wp2_with (first
      | (go_at_call 35; (with_reducible refine (HSK.out _ H0.out).mono ?_); rintro e w1 ⟨rfl, h1, o1⟩
         have c0 := h1.c0
         have H1 := Lib.hid h1
         have HO1 := Lib.hid o1
         clear h1 o1)
      | (go_at_call 69; (with_reducible refine (HW.out _).mono ?_); rintro e w2 ⟨rfl, rfl⟩)
      | (go_at_call 70; (with_reducible refine (HU.out _ H1.out.tabs).mono ?_); rintro e w3 ⟨rfl, b3⟩
         have h3 := H1.out.below b3
         have d0 := h3.c0
         have zf := h3.free 0
         have H3 := Lib.hid (h3.set0 r)
         have HO := Lib.hid ((HO1.out.trans (Off.of_below b3) (fun _ h => h.elim)).trans (off_set7 w3 X 0 (.string (bs r))) (fun _ h => .inl h))
         clear h3))
    go_ret2
    exact ⟨x, true, r, rfl, HE.out, H3.out, HO.out⟩
/-! ### Numbers -/
theorem digF_end {s r : Bt} (h : digF s = some r) : ∃ k, k ≤ s.length ∧ r = s.drop k := by
  unfold digF at h
  split at h
  · cases h
  · exact ⟨dgL s, dg_le s, (Option.some.inj h).symm⟩
theorem numF_end {s r : Bt} (h : numF s = some r) : ∃ k, k ≤ s.length ∧ r = s.drop k := by
  have hw : ∀ {a b : Bt}, wholeF a = some b → ∃ k, k ≤ a.length ∧ b = a.drop k := by
    intro a b h
    unfold wholeF at h
    split at h
    · rename_i h48
      exact ⟨1, by cases a with | nil => cases h48 | cons c t => simp, (Option.some.inj h).symm⟩
    · exact digF_end h
  have hf : ∀ {a b : Bt}, fracF a = some b → ∃ k, k ≤ a.length ∧ b = a.drop k := by
    intro a b h
    unfold fracF at h
    split at h
    · obtain ⟨k, hk, e⟩ := digF_end h
      rename_i h46
      rw [List.length_drop] at hk
      have : 1 ≤ a.length := by cases a with | nil => cases h46 | cons c t => simp
      exact ⟨1 + k, by omega, by rw [e, List.drop_drop]⟩
    · exact ⟨0, Nat.zero_le _, (Option.some.inj h).symm⟩
  have he : ∀ {a b : Bt}, expF a = some b → ∃ k, k ≤ a.length ∧ b = a.drop k := by
    intro a b h
    unfold expF at h
    split at h
    · obtain ⟨k, hk, e⟩ := digF_end h
      rename_i hh
      rw [List.length_drop] at hk
      have h1 : 1 ≤ a.length := by cases a with | nil => simp at hh | cons c t => simp
      have h2 := exps_le (a.drop 1)
      rw [List.length_drop] at h2
      exact ⟨1 + expSL (a.drop 1) + k, by omega, by rw [e, List.drop_drop]⟩
    · exact ⟨0, Nat.zero_le _, (Option.some.inj h).symm⟩
  have hs : signL s ≤ s.length := by
    unfold signL
    cases s with
    | nil => simp
    | cons c t => split <;> simp
  unfold numF at h
  split at h
  · cases h
  · rename_i a ha
    split at h
    · cases h
    · rename_i b hb
      obtain ⟨k1, l1, e1⟩ := hw ha
      obtain ⟨k2, l2, e2⟩ := hf hb
      obtain ⟨k3, l3, e3⟩ := he h
      rw [List.length_drop] at l1
      rw [e1, List.length_drop, List.length_drop] at l2
      rw [e2, e1, List.length_drop, List.length_drop, List.length_drop] at l3
      exact ⟨signL s + k1 + k2 + k3, by omega, by rw [e3, e2, e1, List.drop_drop, List.drop_drop, List.drop_drop]; congr 1; omega⟩
set_option maxRecDepth 100000 in
theorem pclone_any (s : Bt) (w : World) (hs : s.length ≤ 1000000000) : Calls Tryd.prog 33 #[.string (bs s)] w fun e w' => e = .returned (.string (bs s)) ∧ Below w.heap.size w w' := by
  have H := Lib.hid (fun W => libClone (bs s) W (by rw [bs_size]; omega))
  go_enter Tryd.func33, Tryd.ntmps33
  go_wp2_with (go_at_call 51; (with_reducible refine (H.out _).mono ?_); rintro e w1 ⟨rfl, b1⟩)
  go_ret
  exact ⟨rfl, b1⟩
set_option maxRecDepth 100000 in
theorem pnum_none {X : Nat} {s t : Bt} {d : Nat} {w : World} (h : PS X s d w) (ht : blanksL s = t) (hf : numF t = none) :
    Calls Tryd.prog 54 #[.pointer (some ⟨X, 0, none⟩)] w fun e w' => e = .returned (.tuple #[.string ⟨#[]⟩, .bool false]) ∧ PS X t d w' ∧ Off (fun b => b = X) w w' := by
  have HSK : Hid (∀ W, PS X s d W → Calls Tryd.prog 35 #[.pointer (some ⟨X, 0, none⟩)] W fun e w' => e = .returned (.tuple #[]) ∧ PS X t d w' ∧ Off (fun b => b = X) W w') := Lib.hid (fun W hW => pskip_any hW ht)
  have HN := Lib.hid (fun W => bnum_any t W)
  rw [hf] at HN
  have H0 := Lib.hid h
  clear h ht hf
  go_enter Tryd.func54, Tryd.ntmps54
  go_wp2_with (first
    | (go_at_call 35; (with_reducible refine (HSK.out _ H0.out).mono ?_); rintro e w1 ⟨rfl, h1, o1⟩
       have c0 := h1.c0
       have H1 := Lib.hid h1
       have HO1 := Lib.hid o1
       clear h1 o1)
    | (go_at_call 58; (with_reducible refine (HN.out _).mono ?_); rintro e w2 ⟨rfl, b2⟩))
  go_ret2
  exact ⟨rfl, H1.out.below b2, HO1.out.trans (Off.of_below b2) (fun _ h => h.elim)⟩
set_option maxRecDepth 100000 in
set_option maxHeartbeats 1000000 in
theorem pnum_some {X : Nat} {s t r : Bt} {d : Nat} {w : World} (h : PS X s d w) (ht : blanksL s = t) (hf : numF t = some r) (hs : t.length ≤ 1000000000) :
    Calls Tryd.prog 54 #[.pointer (some ⟨X, 0, none⟩)] w fun e w' => e = .returned (.tuple #[.string (bs (t.take (t.length - r.length))), .bool true]) ∧ PS X r d w' ∧ Off (fun b => b = X) w w' := by
  have HSK : Hid (∀ W, PS X s d W → Calls Tryd.prog 35 #[.pointer (some ⟨X, 0, none⟩)] W fun e w' => e = .returned (.tuple #[]) ∧ PS X t d w' ∧ Off (fun b => b = X) W w') := Lib.hid (fun W hW => pskip_any hW ht)
  have HN := Lib.hid (fun W => bnum_any t W)
  rw [hf] at HN
  obtain ⟨k, hk, e⟩ := numF_end hf
  have hrl : r.length = t.length - k := by rw [e, List.length_drop]
  obtain ⟨y, hy⟩ : ∃ y, t.take (t.length - r.length) = y := ⟨_, rfl⟩
  have hsl := slice_front t (t.length - r.length) ((t.length : Int) - (r.length : Int)) (by omega) (by omega) y hy
  have HCL := Lib.hid (fun W => pclone_any y W (by rw [← hy, List.length_take]; omega))
  have hsz := bs_size t
  have hrz := bs_size r
  rw [hy]
  obtain ⟨n, hn⟩ : ∃ n, t.length = n := ⟨_, rfl⟩
  obtain ⟨m, hm⟩ : ∃ n, r.length = n := ⟨_, rfl⟩
  rw [hn, hm] at hsl
  rw [hn] at hsz hs
  rw [hm] at hrz
  have hmn : m ≤ n := by omega
  have hwr : IntKind.i64.wrap ((n : Int) - (m : Int)) = (n : Int) - (m : Int) := IntWalk.i64_in _ (by omega)
  have i1' : (0 : Int) ≤ (n : Int) - (m : Int) := by omega
  have i2' : (n : Int) - (m : Int) ≤ (n : Int) := by omega
  have H0 := Lib.hid h
  clear h ht hf e hk hrl hy hn hm
  go_enter Tryd.func54, Tryd.ntmps54
  go_wp2_with (first
    | (go_at_call 35; (with_reducible refine (HSK.out _ H0.out).mono ?_); rintro e w1 ⟨rfl, h1, o1⟩
       have c0 := h1.c0
       have H1 := Lib.hid h1
       have HO1 := Lib.hid o1
       clear h1 o1)
    | (go_at_call 58; (with_reducible refine (HN.out _).mono ?_); rintro e w2 ⟨rfl, b2⟩
       have H2 := Lib.hid (H1.out.below b2)
       have HO2 := Lib.hid (HO1.out.trans (Off.of_below b2) (fun _ h => h.elim))
       have c2 := H2.out.c0))
  have D0 : w2.drew.cell? ⟨X, 0, none⟩ = some (.string (bs t)) := c2
  have HD : Hid (PS X t d w2.drew) := Lib.hid (H2.out.drewN 1)
  have HOD : Hid (Off (fun b => b = X) w w2.drew) := Lib.hid (HO2.out.drewN 1)
  clear c0 c2
  go_region_with (go_at_call 33; (with_reducible refine (HCL.out _).mono ?_); rintro e w5 ⟨rfl, b5⟩
                  have h5 := HD.out.below b5
                  have zf := h5.free 0
                  have z0 := h5.c0
                  have H5 := Lib.hid (h5.set0 r)
                  have HO := Lib.hid ((HOD.out.trans (Off.of_below b5) (fun _ h => h.elim)).trans (off_set7 w5 X 0 (.string (bs r))) (fun _ h => .inl h))
                  clear h5)
  all_goals go_wp2
  all_goals go_ret2
  all_goals exact ⟨rfl, H5.out, HO.out⟩
end Go.Proofs.YtchgelfomnbpaaaDoor
