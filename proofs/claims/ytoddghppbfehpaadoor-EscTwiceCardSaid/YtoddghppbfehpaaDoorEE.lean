/-
  The walk of package esc's quotedPoint and Unjson. Conditions: texts of at most a million bytes; the library's two tables hold what they are laid with.
-/
import Derived.Test.YtoddghppbfehpaaDoorED
namespace Go.Proofs.YtoddghppbfehpaaDoor
open Go.RowKit
open Go.Lib

/-- The library's two tables, as they are laid. -/
def Tabs (w : World) : Prop := Lib.Utf8Tabs 0 1 w
theorem Tabs.below {w w' : World} (h : Tabs w) (hb : Below w.heap.size w w') : Tabs w' :=
  Utf8Tabs_below h hb
/-- The first code point of what stands in quotes and its width; -1: there is none. -/
def qpQ (l : List UInt8) : Int × Nat :=
  match l with
  | [] => (-1, 0)
  | c :: r => if c = 92 then escQ (c :: r) else if c.toNat < 32 ∨ c = 34 then (-1, 0) else (((decodeL (c :: r)).1 : Int), (decodeL (c :: r)).2)
theorem decodeL_zero (s : ByteArray) : Utf8.decode s 0 = decodeL s.data.toList := by
  have := decodeL_drop s 0
  simpa using this.symm
theorem decode_ascii (c : UInt8) (r : List UInt8) (h : c.toNat < 128) : decodeL (c :: r) = (c.toNat, 1) := by
  rw [decodeL_N]
  simp only [List.getD_cons_zero]
  simp [decodeN, h]
theorem unj_step (l : List UInt8) (hne : l ≠ []) (ht : IsTxt l) : (qpQ l = (-1, 0) ∧ unj l = none) ∨ (∃ (p : Int) (n : Nat), qpQ l = (p, n) ∧ isPt p = true ∧ 1 ≤ n ∧ n ≤ l.length ∧ unj l = (unj (l.drop n)).map (encodeRune p ++ ·) ∧ IsTxt (l.drop n)) := by
  match l, hne with
  | c :: r, _ =>
    by_cases h92 : c = 92
    · subst h92
      have e : qpQ (92 :: r) = escQ (92 :: r) := rfl
      rcases escQ_ok r with h | ⟨h1, h2, h3, _, h5⟩
      · exact .inl ⟨e.trans h, unj_none r (by rw [h]; decide)⟩
      · have h0 := ((isPt_iff _).1 h1).1
        exact .inr ⟨(escQ (92 :: r)).1, (escQ (92 :: r)).2, e, h1, by omega, h3, unj_esc r (by omega), isTxt_drop _ _ ht h5⟩
    · by_cases hb : c.toNat < 32 ∨ c = 34
      · exact .inl ⟨by simp only [qpQ, if_neg h92, if_pos hb], unj_bad c r hb⟩
      · by_cases ha : c.toNat < 128
        · refine .inr ⟨c.toNat, 1, ?_, isPt_ascii c ha, Nat.le_refl _, by simp, ?_, isTxt_drop 1 _ ht (fun d hd => ?_)⟩
          · simp only [qpQ, if_neg h92, if_neg hb, decode_ascii c r ha]
          · have := unj_pass r [c] (fun d hd => by rw [List.mem_singleton] at hd; subst hd; exact ⟨hb, h92⟩)
            rw [encodeRune_ascii _ (by omega) (by omega)]
            simpa using this
          · simp at hd; subst hd; exact ha
        · obtain ⟨z, hz, hz2, hd, hs, htx⟩ := isTxt_head c r ht (by omega)
          have hl := (encodeRune_length z).1
          have h0 := ((isPt_iff _).1 hz).1
          refine .inr ⟨z, (encodeRune z).length, ?_, hz, hl, ?_, ?_, htx⟩
          · simp only [qpQ, if_neg h92, if_neg hb, hd]
            congr 1
            omega
          · have := congrArg List.length hs
            rw [List.length_append] at this
            omega
          · have := unj_pass ((c :: r).drop (encodeRune z).length) (encodeRune z) (fun d hd => by
              have := encodeRune_high z hz hz2 d hd
              refine ⟨?_, ?_⟩
              · rintro (h | h)
                · omega
                · subst h; exact absurd this (by decide)
              · rintro rfl; exact absurd this (by decide))
            rw [← hs] at this
            exact this
/-- Two results, memory above alone touched. -/
def TwoB (p : Int) (n : Nat) (w : World) (e : Ending) (w' : World) : Prop := e = .returned (.tuple #[.int .i32 p, .int .i64 n]) ∧ Below w.heap.size w w'
theorem TwoB.mk {p q : Int} {n m : Nat} {w w' : World} (h : p = q) (g : n = m) (hb : Below w.heap.size w w') : TwoB q m w (.returned (.tuple #[.int .i32 p, .int .i64 n])) w' := by subst h; subst g; exact ⟨rfl, hb⟩
set_option maxRecDepth 100000 in
theorem quotedPoint_any (s : ByteArray) (w : World) (hs : s.size ≤ 1000000) (h0 : 0 < s.size) (hT : Tabs w) : Calls Tryd.prog 37 #[.string s] w (TwoB (p0 (qpQ s.data.toList)) (n0 (qpQ s.data.toList)) w) := by
  have hd := libDecode s w hT
  have HG := Lib.hid (show Lib.decodeGo s = decodeL s.data.toList by
    rw [← decodeL_zero]; unfold Lib.decodeGo; rw [if_neg (by omega)])
  rw [HG.out] at hd
  have HT := Lib.hid hT
  clear hT HG
  have hc := escaped_any s w hs
  have HL : Hid (s.data.toList = s[0] :: s.data.toList.drop 1) := by
    show _ = _
    have := List.drop_eq_getElem_cons (l := s.data.toList) (i := 0) (by simpa using h0)
    rw [List.drop_zero] at this
    exact this
  by_cases a : s[0] = 92
  · have HV := Lib.hid (show qpQ s.data.toList = escQ s.data.toList by rw [HL.out, a]; rfl)
    have b : ((s[0].toNat : Int) == 92) = true := by rw [a]; decide
    clear a hd
    generalize escQ s.data.toList = q at *
    go_enter Tryd.func37, Tryd.ntmps37
    go_wp2_with fail
    refine hc.mono ?_
    clear hc
    rintro e w' ⟨rfl, rfl⟩
    go_wp2
    go_ret2
    exact TwoB.mk (by rw [HV.out]) (by rw [HV.out]) (Below.refl _ _)
  have b : ((s[0].toNat : Int) == 92) = false := beqF _ 92 a
  by_cases c : s[0] = 34
  · have HV := Lib.hid (show qpQ s.data.toList = (-1, 0) by rw [HL.out]; simp only [qpQ]; rw [if_neg a, if_pos (.inr c)])
    have d : ((s[0].toNat : Int) == 34) = true := by rw [c]; decide
    clear a c hd hc
    go_enter Tryd.func37, Tryd.ntmps37
    go_wp2
    go_ret2
    exact TwoB.mk (by rw [HV.out]; rfl) (by rw [HV.out]; rfl) (Below.refl _ _)
  have d : ((s[0].toNat : Int) == 34) = false := beqF _ 34 c
  by_cases k : s[0].toNat < 32
  · have HV := Lib.hid (show qpQ s.data.toList = (-1, 0) by rw [HL.out]; simp only [qpQ]; rw [if_neg a, if_pos (.inl k)])
    clear a c hd hc
    go_enter Tryd.func37, Tryd.ntmps37
    go_wp2
    go_ret2
    exact TwoB.mk (by rw [HV.out]; rfl) (by rw [HV.out]; rfl) (Below.refl _ _)
  · have HV := Lib.hid (show qpQ s.data.toList = (((decodeL s.data.toList).1 : Int), (decodeL s.data.toList).2) by
      rw [HL.out]; simp only [qpQ]; rw [if_neg a, if_neg (by rintro (h | h); exact k h; exact c h)])
    have k2 : 32 ≤ s[0].toNat := by omega
    clear a c hc k
    generalize decodeL s.data.toList = q at *
    go_enter Tryd.func37, Tryd.ntmps37
    go_wp2_with fail
    refine hd.mono ?_
    clear hd
    rintro e w' ⟨rfl, hb⟩
    go_wp2
    go_ret2
    refine TwoB.mk ?_ ?_ hb
    · rw [HV.out]; unfold p0; rw [if_neg]; simp only; omega
    · rw [HV.out]; unfold n0; rw [if_neg]; simp only; omega
end Go.Proofs.YtoddghppbfehpaaDoor
