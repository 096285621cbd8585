/-
  The walks of package vfs's Rename and SyncDir. Conditions: a disk of a modest size.
-/
import Derived.Test.YtbodkjifpmencaaGreatVO
import Derived.Deep.DeepCutAuto
import Derived.Deep.CutBlock
namespace Go.Proofs.YtbodkjifpmencaaGreat
open Go.RowKit
open Go.Lib

theorem right_is (s : ByteArray) (x : Bool) (h : rightL s.data.toList = x) (hs : s.size ≤ 281474976710656) (w : World) : Calls Tryz.prog 43 #[.string s] w fun e w' => e = .returned (.bool x) ∧ Below w.heap.size w w' := by
  rw [← h]; exact right_any s w hs
theorem dir_is (s D : ByteArray) (h : bs (dirL s.data.toList) = D) (hs : s.size ≤ 281474976710656) (w : World) : Calls Tryz.prog 38 #[.string s] w fun e w' => e = .returned (.string D) ∧ Below w.heap.size w w' := by
  rw [← h]; exact directory_any s w hs
set_option maxRecDepth 100000 in
set_option maxHeartbeats 2000000 in
theorem rename_any {L : Lay} {q : Q} {w : World} (H : QD L q w) {N : Nat} (hS : Small N q) (hN : N ≤ 1048576) (s t : ByteArray) (hs : s.size ≤ 281474976710656) (ht : t.size ≤ 281474976710656) :
    Calls Tryz.prog 27 #[ptr L.d, .string s, .string t] w fun e w' => e = .returned (.int .i64 (renameQ q s.data.toList t.data.toList).1) ∧ ∃ L', Step L q w L' (renameQ q s.data.toList t.data.toList).2 w' := by
  obtain ⟨r1, hr1⟩ : ∃ r, rightL s.data.toList = r := ⟨_, rfl⟩
  obtain ⟨r2, hr2⟩ : ∃ r, rightL t.data.toList = r := ⟨_, rfl⟩
  obtain ⟨D1, hD1⟩ : ∃ r, bs (dirL s.data.toList) = r := ⟨_, rfl⟩
  obtain ⟨D2, hD2⟩ : ∃ r, bs (dirL t.data.toList) = r := ⟨_, rfl⟩
  obtain ⟨r3, hr3⟩ : ∃ r, (D1.toList == D2.toList) = r := ⟨_, rfl⟩
  have hdd : (dirL s.data.toList == dirL t.data.toList) = r3 := by rw [← hr3, eqS, Lib.toList_data, ← hD1, ← hD2, bs_list, bs_list]
  obtain ⟨r, hr⟩ : ∃ r, (r1 && r2 && r3) = r := ⟨_, rfl⟩
  obtain ⟨e, q1, hq⟩ : ∃ e q1, beginQ q r = (e, q1) := ⟨_, _, rfl⟩
  have hB0 := fun w1 (hb : Below w.heap.size w w1) => begin_at H hS hb r e q1 hq
  have HB := Lib.hid hB0
  have hS1 : Small N q1 := by have := hS.begin r; rw [hq] at this; exact this
  have HS1 := Lib.hid hS1
  have her := begin_err q r
  rw [hq] at her
  have HER := Lib.hid her
  have HSQ : Hid (renameQ q s.data.toList t.data.toList = if e = 0 then (match look q1.names s.data.toList with | none => (60, q1) | some k => (0, if s.data.toList = t.data.toList then q1 else changeQ q1 s.data.toList t.data.toList (some k))) else (e, q1)) := Lib.hid (by unfold renameQ; rw [hr1, hr2, hdd, hr, hq]; rfl)
  have HR1 := Lib.hid (right_is s r1 hr1 hs)
  have HR2 := Lib.hid (right_is t r2 hr2 ht)
  have HD1 := Lib.hid (dir_is s D1 hD1 hs)
  have HD2 := Lib.hid (dir_is t D2 hD2 ht)
  have HRR1 := Lib.hid hr1
  have HRR2 := Lib.hid hr2
  have HR := Lib.hid hr
  -- the test of the two paths
  have HHEAD : Hid (r1 = true ∧ r2 = true ∨ r = false) := Lib.hid (by rw [← hr]; cases r1 <;> cases r2 <;> simp)
  clear hB0 hq hS1 her H hS hr1 hr2 hD1 hD2 hdd
  have HDD := Lib.hid hr3
  unfold ptr at *
  go_enter Tryz.func27, Tryz.ntmps27
  go_upto_region 1 with fail
  go_cut [7] (fun x wx => x = .bool r ∧ Below w.heap.size w wx)
  case first =>
    cases r1
    · go_wp2_with (go_at_call 43; (with_reducible refine (HR1.out _).mono ?_); rintro e w1 ⟨rfl, b1⟩)
      go_meet
      exact ⟨by rw [← HR.out]; rfl, b1⟩
    · cases r2
      · go_wp2_with (first
          | (go_at_call 43; (with_reducible refine (HR1.out _).mono ?_); rintro e w1 ⟨rfl, b1⟩)
          | (go_at_call 43; (with_reducible refine (HR2.out _).mono ?_); rintro e w2 ⟨rfl, b2⟩))
        go_meet
        exact ⟨by rw [← HR.out]; rfl, b1.trans (b2.mono b1.size)⟩
      · go_wp2_with (first
          | (go_at_call 43; (with_reducible refine (HR1.out _).mono ?_); rintro e w1 ⟨rfl, b1⟩)
          | (go_at_call 43; (with_reducible refine (HR2.out _).mono ?_); rintro e w2 ⟨rfl, b2⟩)
          | (go_at_call 38; (with_reducible refine (HD1.out _).mono ?_); rintro e w3 ⟨rfl, b3⟩)
          | (go_at_call 38; (with_reducible refine (HD2.out _).mono ?_); rintro e w4 ⟨rfl, b4⟩))
        go_meet
        have c12 := b1.trans (b2.mono b1.size)
        have c13 := c12.trans (b3.mono c12.size)
        exact ⟨by rw [← HR.out, ← hr3]; rfl, c13.trans (b4.mono c13.size)⟩
  case rest =>
    obtain ⟨rfl, hb1⟩ := hcut
    clear hr3 hr
    by_cases he : e = 0
    · subst he
      have hrt : r = true := by rcases HER.out with h | h | h <;> simp_all
      have hsl : s.size ≤ 161 ∧ t.size ≤ 161 := by
        rcases HHEAD.out with ⟨h1, h2⟩ | h
        · have a1 := right_len (HRR1.out.trans h1)
          have a2 := right_len (HRR2.out.trans h2)
          exact ⟨by rw [size_list]; exact a1, by rw [size_list]; exact a2⟩
        · rw [hrt] at h; cases h
      have HK := Lib.hid (key_str s (by unfold maxLen; omega))
      rw [if_pos rfl] at HSQ
      obtain ⟨G, hG⟩ : ∃ G, look q1.names s.data.toList = G := ⟨_, rfl⟩
      have HG := Lib.hid hG
      rw [hG] at HSQ
      clear hG hrt
      cases G with
      | none =>
        go_wp2_with (first
          | (go_at_call 42; (with_reducible refine (HB.out _ hb1).mono ?_); rintro e w2 ⟨rfl, st⟩; have c1 := st.to.c1)
          | (at_lookup; refine wpList_lookup_map _ rfl _ _ 54 rfl 9 70 KS Tryz.underlying54 (.pointer none) (zeroP _) L.mn _ rfl st.to.names _ _ rfl HK.out (.pointer none) (by rw [look_entN_get, HG.out]; rfl) ?_))
        go_ret
        rw [HSQ.out]
        exact ⟨rfl, L, st⟩
      | some k =>
        have HKL := Lib.hid (HS1.out.name HG.out)
        by_cases hst : s.data.toList = t.data.toList
        · have hneq : (s.toList == t.toList) = true := by rw [eqS, Lib.toList_data, hst]; simp
          have HST := Lib.hid hst
          clear hst
          go_wp2_with (first
            | (go_at_call 42; (with_reducible refine (HB.out _ hb1).mono ?_); rintro e w2 ⟨rfl, st⟩; have c1 := st.to.c1)
            | (at_lookup; refine wpList_lookup_map _ rfl _ _ 54 rfl 9 70 KS Tryz.underlying54 (.pointer none) (zeroP _) L.mn _ rfl st.to.names _ _ rfl HK.out (.pointer (some ⟨L.bl k, 0, none⟩)) (by rw [look_entN_get, HG.out]; rfl) ?_))
          go_ret
          rw [HSQ.out, if_pos HST.out]
          exact ⟨rfl, L, st⟩
        · have hneq : (s.toList == t.toList) = false := by rw [eqS, Lib.toList_data]; simpa using hst
          have HST := Lib.hid hst
          clear hst
          go_wp2_with (first
            | (go_at_call 42; (with_reducible refine (HB.out _ hb1).mono ?_); rintro e w2 ⟨rfl, st⟩; have c1 := st.to.c1)
            | (at_lookup; refine wpList_lookup_map _ rfl _ _ 54 rfl 9 70 KS Tryz.underlying54 (.pointer none) (zeroP _) L.mn _ rfl st.to.names _ _ rfl HK.out (.pointer (some ⟨L.bl k, 0, none⟩)) (by rw [look_entN_get, HG.out]; rfl) ?_)
            | (go_at_call 45; (with_reducible refine (change_at st.to rfl HS1.out hN s t k HKL.out hsl.1 hsl.2).mono ?_); rintro e w3 ⟨rfl, L3, st3⟩))
          go_ret
          rw [HSQ.out, if_neg HST.out]
          exact ⟨rfl, L3, st.trans st3⟩
    · rw [if_neg he] at HSQ
      have hne : (e == 0) = false := by rw [beq_eq_false_iff_ne]; exact he
      go_wp2_with (go_at_call 42; (with_reducible refine (HB.out _ hb1).mono ?_); rintro e w2 ⟨rfl, st⟩; have c1 := st.to.c1)
      go_ret
      rw [HSQ.out]
      exact ⟨rfl, L, st⟩
end Go.Proofs.YtbodkjifpmencaaGreat
