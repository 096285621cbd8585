/-
  The walks of the document's Split and Dots of layer 4. Conditions: texts of at most a hundred thousand bytes.
-/
import Derived.Test.YtlgggibdgfdmhaaGreatDoorKK
import Derived.Laws.AppendOwnNone
namespace Go.Proofs.YtlgggibdgfdmhaaGreatDoor
open Go.RowKit
open Go.Lib

theorem ext_mid (s : ByteArray) (a k : Nat) : s.extract a k = bs ((s.data.toList.drop a).take (k - a)) := by
  apply ByteArray.ext
  rw [ByteArray.data_extract]
  apply Array.toList_inj.1
  rw [Array.toList_extract]
  rfl
theorem beq_u8 (c d : UInt8) : ((c.toNat : Int) == (d.toNat : Int)) = (c == d) := by
  rw [Bool.eq_iff_iff, beq_iff_eq, beq_iff_eq]
  constructor
  · intro h; exact UInt8.toNat_inj.1 (by omega)
  · intro h; rw [h]
def SplitOut (c : UInt8) (l : List UInt8) (w : World) (e : Ending) (w' : World) : Prop := ∃ v, e = .returned v ∧ OwnS w' w.heap.size v (splitP c l) ∧ Below w.heap.size w w'
def SpRel (w : World) (c : UInt8) (l : List UInt8) (v : Value) (k a : Nat) (wr : World) : Prop :=
  ∃ out, OwnS wr w.heap.size v out ∧ Below w.heap.size w wr ∧ out.length ≤ k ∧ ((k ≤ l.length ∧ a ≤ k ∧ c ∉ (l.drop a).take (k - a) ∧ out ++ splitP c (l.drop a) = splitP c l) ∨ (k = l.length + 1 ∧ a ≤ k ∧ out = splitP c l))
set_option maxRecDepth 100000 in
set_option maxHeartbeats 1000000 in
theorem rsplit_any (s : ByteArray) (c : UInt8) (w : World) (hs : s.size ≤ 100000) : Calls Tryz.prog 36 #[.string s, .int .u8 c.toNat] w (SplitOut c s.data.toList w) := by
  have HL := Lib.hid (size_list s)
  go_enter Tryz.func36, Tryz.ntmps36
  go_wp2
  go_loopw [5, 6, 7] (fun v at' i wr => ∃ k a : Nat, i = .int .i64 k ∧ at' = .int .i64 a ∧ k ≤ s.size + 1 ∧ SpRel w c s.data.toList v k a wr) (fun _ _ i _ => s.size + 1 - (RowKit.intOf i).toNat)
  case atStart => exact ⟨0, 0, rfl, rfl, by omega, [], ownS_nil _ _, Below.refl _ _, by simp, .inl ⟨by omega, by omega, by simp, by simp⟩⟩
  case round =>
    obtain ⟨k, a, rfl, rfl, hk1, out, hown, hbw, hol, hst⟩ := hrel
    have hbsz := hbw.size
    by_cases hle : k ≤ s.size
    · have hst1 : Hid (a ≤ k ∧ c ∉ (s.data.toList.drop a).take (k - a) ∧ out ++ splitP c (s.data.toList.drop a) = splitP c s.data.toList) := by
        rcases hst with ⟨_, h⟩ | ⟨h, _⟩
        · exact h
        · rw [← HL.out] at h; omega
      have hak := hst1.out.1
      clear hst
      by_cases heq : k = s.size
      · have HV := Lib.hid (show out ++ [s.data.toList.drop a] = splitP c s.data.toList by
          obtain ⟨_, h2, h3⟩ := hst1.out
          rw [List.take_of_length_le (by rw [List.length_drop, ← HL.out]; omega)] at h2
          rw [splitP_no c _ h2] at h3; exact h3)
        have HX := Lib.hid (show s.extract a k = ⟨(s.data.toList.drop a).toArray⟩ by rw [ext_mid, List.take_of_length_le (by rw [List.length_drop, ← HL.out]; omega)]; rfl)
        have e1 : ((k : Int) == (s.size : Int)) = true := by rw [heq]; simp
        have e2 : (k == s.size) = true := by rw [heq]; simp
        have hks : s.size ≤ k := by omega
        clear heq
        go_wp2_with (at_builtin; rw [HX.out]; refine appS rfl _ _ rfl wr w w.heap.size w.heap.size _ out (s.data.toList.drop a) rfl (by exact hown) rfl (by omega) (by omega) (Nat.le_refl _) hbw ?_)
        intro v' w2 hown2 B2
        rw [HV.out] at hown2
        have hlen : (splitP c s.data.toList).length ≤ k + 1 := by rw [← HV.out]; simp; omega
        clear hown hbw
        go_wp2
        go_roundw
        case rel => exact ⟨k + 1, k + 1, by go_num, by go_num, by omega, _, hown2, B2, hlen, .inr ⟨by rw [← HL.out]; omega, by omega, rfl⟩⟩
        case measure => simp [RowKit.intOf]; omega
      · have hlt : k < s.size := by omega
        have e1 : ((k : Int) == (s.size : Int)) = false := by rw [beq_eq_false_iff_ne]; omega
        have e2 : (k == s.size) = false := by rw [beq_eq_false_iff_ne]; exact heq
        have HB := Lib.hid (beq_u8 s[k] c)
        have HD := Lib.hid (show s.data.toList.drop a = (s.data.toList.drop a).take (k - a) ++ s[k] :: s.data.toList.drop (k + 1) by
          have h1 := drop_at s k hlt
          have h2 := List.take_append_drop (k - a) (s.data.toList.drop a)
          rw [List.drop_drop, show a + (k - a) = k by omega, h1] at h2
          exact h2.symm)
        clear heq
        cases hc : (s[k] == c) with
        | true =>
          have hcc : s[k] = c := eq_of_beq hc
          have e3 : ((s[k].toNat : Int) == (c.toNat : Int)) = true := by rw [HB.out, hc]
          have HV := Lib.hid (show (out ++ [(s.data.toList.drop a).take (k - a)]) ++ splitP c (s.data.toList.drop (k + 1)) = splitP c s.data.toList by
            obtain ⟨_, h2, h3⟩ := hst1.out
            rw [HD.out, hcc, splitP_mid c _ _ h2] at h3
            rw [List.append_assoc]; exact h3)
          have HX := Lib.hid (show s.extract a k = ⟨((s.data.toList.drop a).take (k - a)).toArray⟩ by rw [ext_mid]; rfl)
          clear hc hcc
          go_wp2_with (at_builtin; rw [HX.out]; refine appS rfl _ _ rfl wr w w.heap.size w.heap.size _ out ((s.data.toList.drop a).take (k - a)) rfl (by exact hown) rfl (by omega) (by omega) (Nat.le_refl _) hbw ?_)
          intro v' w2 hown2 B2
          clear hown hbw
          go_wp2
          go_roundw
          case rel => exact ⟨k + 1, k + 1, by go_num, by go_num, by omega, _, hown2, B2, by simp; omega, .inl ⟨by rw [← HL.out]; omega, by omega, by simp, HV.out⟩⟩
          case measure => simp [RowKit.intOf]; omega
        | false =>
          have hcc : s[k] ≠ c := by simpa using hc
          have e3 : ((s[k].toNat : Int) == (c.toNat : Int)) = false := by rw [HB.out, hc]
          have HV := Lib.hid (show c ∉ (s.data.toList.drop a).take (k + 1 - a) by
            obtain ⟨_, h2, _⟩ := hst1.out
            have hl : ((s.data.toList.drop a).take (k - a)).length = k - a := by rw [List.length_take, List.length_drop, ← HL.out]; omega
            rw [HD.out, List.take_append, List.take_of_length_le (by omega), hl, show k + 1 - a - (k - a) = 1 by omega, List.mem_append, not_or]
            exact ⟨h2, by simp; exact fun e => hcc e.symm⟩)
          clear hc hcc
          go_wp2
          go_roundw
          case rel => exact ⟨k + 1, a, by go_num, rfl, by omega, out, hown, hbw, by omega, .inl ⟨by rw [← HL.out]; omega, by omega, HV.out, hst1.out.2.2⟩⟩
          case measure => simp [RowKit.intOf]; omega
    · have HV := Lib.hid (show out = splitP c s.data.toList by
        rcases hst with ⟨h, _⟩ | ⟨_, _, h⟩
        · rw [← HL.out] at h; omega
        · exact h)
      clear hst
      go_wp2
      go_ret
      exact ⟨_, rfl, by rw [← HV.out]; exact hown, hbw⟩
end Go.Proofs.YtlgggibdgfdmhaaGreatDoor
