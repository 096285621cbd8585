/-
  The walk of the document's until of layer 4. Conditions: texts of at most a million bytes, marks of at most a thousand.
-/
import Derived.Test.YtlgggibdgfdmhaaGreatDoorKC
namespace Go.Proofs.YtlgggibdgfdmhaaGreatDoor
open Go.RowKit
open Go.Lib

/-- How long a text is ahead of any of some bytes. -/
def untilL (l ch : List UInt8) : Nat := (l.takeWhile (fun c => !ch.contains c)).length
theorem until_stop (l ch : List UInt8) (k : Nat) (hk : k ≤ l.length) (hall : (l.take k).all (fun c => !ch.contains c) = true) (hend : k = l.length ∨ ∃ c, l[k]? = some c ∧ ch.contains c = true) : untilL l ch = k := by
  unfold untilL
  rw [tw_stop _ l k hk hall (hend.imp id (fun ⟨c, h1, h2⟩ => ⟨c, h1, by rw [h2]; rfl⟩))]
  rw [List.length_take]; omega
theorem none_in (ch : List UInt8) (c : UInt8) (h : ch.all (fun x => x != c) = true) : ch.contains c = false := by
  rw [List.all_eq_true] at h
  cases hc : ch.contains c with
  | false => rfl
  | true =>
    have hm : c ∈ ch := by simpa using hc
    have := h c hm
    simp at this
set_option maxRecDepth 100000 in
set_option maxHeartbeats 1000000 in
theorem until_any (s t : ByteArray) (w : World) (hs : s.size ≤ 1000000) (ht : t.size ≤ 1000) : Calls Tryz.prog 24 #[.string s, .string t] w fun e w' => e = .returned (.int .i64 (untilL s.data.toList t.data.toList)) ∧ ∃ m, w' = w.drewN m := by
  have HL := Lib.hid (size_list s)
  have HM := Lib.hid (size_list t)
  go_enter Tryz.func24, Tryz.ntmps24
  go_wp2
  go_loopw [5] (fun i wr => ∃ k n : Nat, k ≤ s.size ∧ i = .int .i64 k ∧ wr = w.drewN n ∧ Hid ((s.data.toList.take k).all (fun c => !t.data.toList.contains c) = true)) (fun i _ => s.size - (RowKit.intOf i).toNat)
  case atStart => exact ⟨0, 0, Nat.zero_le _, rfl, rfl, by simp [Hid]⟩
  case round =>
    obtain ⟨k, n, hk, rfl, rfl, hall⟩ := hrel
    by_cases hlt : k < s.size
    · have dlt : decide (k < s.size) = true := by simpa using hlt
      have HT := Lib.hid (take_snoc s k hlt)
      have HG := Lib.hid (getE? s k hlt)
      go_wp2
      go_loopw [6] (fun j wr => ∃ m n : Nat, m ≤ t.size ∧ j = .int .i64 m ∧ wr = w.drewN n ∧ Hid ((t.data.toList.take m).all (fun x => x != s[k]) = true)) (fun j _ => t.size - (RowKit.intOf j).toNat)
      case atStart => exact ⟨0, n, Nat.zero_le _, rfl, rfl, by simp [Hid]⟩
      case round =>
        obtain ⟨m, n2, hm, rfl, rfl, hno⟩ := hrel
        by_cases hmt : m < t.size
        · have dmt : decide (m < t.size) = true := by simpa using hmt
          have HT2 := Lib.hid (take_snoc t m hmt)
          have HG2 := Lib.hid (getE? t m hmt)
          by_cases he : s[k] = t[m]
          · have q : ((s[k].toNat : Int) == (t[m].toNat : Int)) = true := by rw [he]; simp
            have HV := Lib.hid (until_stop s.data.toList t.data.toList k (by rw [← HL.out]; omega) hall.out (.inr ⟨s[k], HG.out, by rw [he]; simpa using (List.mem_of_getElem? HG2.out : t[m] ∈ t.data.toList)⟩))
            clear he
            go_wp2
            go_quiet (fail)
            go_wp2
            go_ret
            exact ⟨by rw [HV.out]; rfl, n2 + nq, by first | rfl | rw [World.drewN_drewN]⟩
          · have q : ((s[k].toNat : Int) == (t[m].toNat : Int)) = false := by rw [beq_eq_false_iff_ne]; intro h; exact he (UInt8.toNat_inj.1 (by omega))
            have HV := Lib.hid (show (t.data.toList.take (m + 1)).all (fun x => x != s[k]) = true by rw [HT2.out, List.all_append, hno.out]; simp; exact fun h => he h.symm)
            clear he
            go_wp2
            go_quiet (fail)
            go_wp2
            go_round
            case rel => exact ⟨m + 1, _, by omega, by go_num, rfl, HV⟩
            case measure => simp [RowKit.intOf]; omega
        · have dmt : decide (m < t.size) = false := by simpa using hmt
          have HV := Lib.hid (show (s.data.toList.take (k + 1)).all (fun c => !t.data.toList.contains c) = true by
            have h1 : t.data.toList.take m = t.data.toList := List.take_of_length_le (by rw [← HM.out]; omega)
            have h2 := hno.out
            rw [h1] at h2
            rw [HT.out, List.all_append, hall.out, List.all_cons, none_in _ _ h2]; rfl)
          go_wp2
          go_round
          case rel => exact ⟨k + 1, _, by omega, by go_num, rfl, HV⟩
          case measure => simp [RowKit.intOf]; omega
    · have dlt : decide (k < s.size) = false := by simpa using hlt
      have HV := Lib.hid (until_stop s.data.toList t.data.toList k (by rw [← HL.out]; omega) hall.out (.inl (by rw [← HL.out]; omega)))
      have hks : k = s.size := by omega
      go_wp2
      go_ret
      exact ⟨by rw [HV.out, hks]; rfl, _, rfl⟩
end Go.Proofs.YtlgggibdgfdmhaaGreatDoor
