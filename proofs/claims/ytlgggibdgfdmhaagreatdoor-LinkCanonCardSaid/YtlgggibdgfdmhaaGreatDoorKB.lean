/-
  The walks of package link's front (at its three functions), isEscape, isPath, isTail. Conditions: texts of at most a million bytes.
-/
import Derived.Test.YtlgggibdgfdmhaaGreatDoorKA
import Derived.Test.YtlgggibdgfdmhaaGreatDoorKShelf
namespace Go.Proofs.YtlgggibdgfdmhaaGreatDoor
open Go.RowKit
open Go.Lib

/-- A text of these bytes. -/
def bs (l : List UInt8) : ByteArray := ⟨l.toArray⟩
theorem bs_list (l : List UInt8) : (bs l).data.toList = l := rfl
theorem bs_self (s : ByteArray) : bs s.data.toList = s := rfl
theorem bs_size (l : List UInt8) : (bs l).size = l.length := by rw [size_list]; rfl
theorem ext_take (s : ByteArray) (k : Nat) : s.extract 0 k = bs (s.data.toList.take k) := by
  rw [← take_extract]; rfl
theorem ext_drop (s : ByteArray) (k : Nat) : s.extract k s.size = bs (s.data.toList.drop k) := by
  rw [← drop_extract]; rfl
theorem tw_stop (f : UInt8 → Bool) (l : List UInt8) (k : Nat) (hk : k ≤ l.length) (hall : (l.take k).all f = true) (hs : k = l.length ∨ ∃ c, l[k]? = some c ∧ f c = false) : l.takeWhile f = l.take k := by
  have e := takeWhile_mid (f := f) (l.take k) (l.drop k) hall (fun c r h => by
    rcases hs with rfl | ⟨d, hd, hf⟩
    · simp at h
    · have : l[k]? = some c := by rw [← List.head?_drop, h]; rfl
      rw [this] at hd; injection hd with hd; rw [hd]; exact hf)
  rwa [List.take_append_drop] at e
def FrontOut (f : UInt8 → Bool) (l : List UInt8) (w : World) (e : Ending) (w' : World) : Prop :=
  e = .returned (.tuple #[.string (bs (l.takeWhile f)), .string (bs (l.drop (l.takeWhile f).length))]) ∧ Below w.heap.size w w'
theorem FrontOut.mk {f : UInt8 → Bool} {s : ByteArray} {w w' : World} {k : Nat} (hk : k ≤ s.size) (h : s.data.toList.takeWhile f = s.data.toList.take k) (hb : Below w.heap.size w w') :
    FrontOut f s.data.toList w (.returned (.tuple #[.string (s.extract 0 k), .string (s.extract k s.size)])) w' := by
  unfold FrontOut
  rw [h, List.length_take, ← size_list, Nat.min_eq_left hk, ext_take, ext_drop]
  exact ⟨rfl, hb⟩
set_option maxRecDepth 100000 in
set_option maxHeartbeats 1000000 in
theorem frontHost (s : ByteArray) (w : World) (hs : s.size ≤ 1000000) : Calls Tryz.prog 45 #[.string s, .func (.func 46) #[] #[]] w (FrontOut hostB s.data.toList w) := by
  have HL := Lib.hid (size_list s)
  go_enter Tryz.func45, Tryz.ntmps45
  go_wp2
  go_loop [6] (fun i => ∃ k : Nat, k ≤ s.size ∧ i = .int .i64 k ∧ Hid ((s.data.toList.take k).all hostB = true)) (fun i => s.size - (RowKit.intOf i).toNat)
  case atStart => exact ⟨0, Nat.zero_le _, rfl, by simp [Hid]⟩
  case round =>
    obtain ⟨k, hk, rfl, hall⟩ := hrel
    by_cases hlt : k < s.size
    · have dlt : decide (k < s.size) = true := by simpa using hlt
      have hc := inHost_any s[k] w
      have HT := Lib.hid (take_snoc s k hlt)
      have HG := Lib.hid (getE? s k hlt)
      cases hd : hostB s[k] with
      | true =>
        rw [hd] at hc
        have HV := Lib.hid (show (s.data.toList.take (k + 1)).all hostB = true by rw [HT.out, List.all_append, hall.out, List.all_cons, hd]; rfl)
        clear hd
        go_wp2_with fail
        refine hc.mono ?_
        clear hc
        rintro e w' ⟨rfl, rfl⟩
        go_wp2
        go_round
        case rel => exact ⟨k + 1, by omega, by go_num, HV⟩
        case measure => simp [RowKit.intOf]; omega
      | false =>
        rw [hd] at hc
        have HV := Lib.hid (tw_stop hostB s.data.toList k (by rw [← HL.out]; omega) hall.out (.inr ⟨s[k], HG.out, hd⟩))
        clear hd
        go_wp2_with fail
        refine hc.mono ?_
        clear hc
        rintro e w' ⟨rfl, rfl⟩
        go_wp2
        go_quiet (fail)
        go_wp2
        go_ret2
        exact FrontOut.mk hk HV.out (below_drewN (Below.refl _ _) _)
    · have dlt : decide (k < s.size) = false := by simpa using hlt
      have HV := Lib.hid (tw_stop hostB s.data.toList k (by rw [← HL.out]; omega) hall.out (.inl (by rw [← HL.out]; omega)))
      go_wp2
      go_quiet (fail)
      go_wp2
      go_ret2
      exact FrontOut.mk hk HV.out (below_drewN (Below.refl _ _) _)
set_option maxRecDepth 100000 in
set_option maxHeartbeats 1000000 in
theorem frontDigit (s : ByteArray) (w : World) (hs : s.size ≤ 1000000) : Calls Tryz.prog 45 #[.string s, .func (.func 67) #[] #[]] w (FrontOut dgtB s.data.toList w) := by
  have HL := Lib.hid (size_list s)
  go_enter Tryz.func45, Tryz.ntmps45
  go_wp2
  go_loop [6] (fun i => ∃ k : Nat, k ≤ s.size ∧ i = .int .i64 k ∧ Hid ((s.data.toList.take k).all dgtB = true)) (fun i => s.size - (RowKit.intOf i).toNat)
  case atStart => exact ⟨0, Nat.zero_le _, rfl, by simp [Hid]⟩
  case round =>
    obtain ⟨k, hk, rfl, hall⟩ := hrel
    by_cases hlt : k < s.size
    · have dlt : decide (k < s.size) = true := by simpa using hlt
      have hc := isDigit_any s[k] w
      have HT := Lib.hid (take_snoc s k hlt)
      have HG := Lib.hid (getE? s k hlt)
      cases hd : dgtB s[k] with
      | true =>
        rw [hd] at hc
        have HV := Lib.hid (show (s.data.toList.take (k + 1)).all dgtB = true by rw [HT.out, List.all_append, hall.out, List.all_cons, hd]; rfl)
        clear hd
        go_wp2_with fail
        refine hc.mono ?_
        clear hc
        rintro e w' ⟨rfl, rfl⟩
        go_wp2
        go_round
        case rel => exact ⟨k + 1, by omega, by go_num, HV⟩
        case measure => simp [RowKit.intOf]; omega
      | false =>
        rw [hd] at hc
        have HV := Lib.hid (tw_stop dgtB s.data.toList k (by rw [← HL.out]; omega) hall.out (.inr ⟨s[k], HG.out, hd⟩))
        clear hd
        go_wp2_with fail
        refine hc.mono ?_
        clear hc
        rintro e w' ⟨rfl, rfl⟩
        go_wp2
        go_quiet (fail)
        go_wp2
        go_ret2
        exact FrontOut.mk hk HV.out (below_drewN (Below.refl _ _) _)
    · have dlt : decide (k < s.size) = false := by simpa using hlt
      have HV := Lib.hid (tw_stop dgtB s.data.toList k (by rw [← HL.out]; omega) hall.out (.inl (by rw [← HL.out]; omega)))
      go_wp2
      go_quiet (fail)
      go_wp2
      go_ret2
      exact FrontOut.mk hk HV.out (below_drewN (Below.refl _ _) _)
set_option maxRecDepth 100000 in
set_option maxHeartbeats 1000000 in
theorem frontMail (s : ByteArray) (w : World) (hs : s.size ≤ 1000000) : Calls Tryz.prog 45 #[.string s, .func (.func 64) #[] #[]] w (FrontOut mailB s.data.toList w) := by
  have HL := Lib.hid (size_list s)
  go_enter Tryz.func45, Tryz.ntmps45
  go_wp2
  go_loop [6] (fun i => ∃ k : Nat, k ≤ s.size ∧ i = .int .i64 k ∧ Hid ((s.data.toList.take k).all mailB = true)) (fun i => s.size - (RowKit.intOf i).toNat)
  case atStart => exact ⟨0, Nat.zero_le _, rfl, by simp [Hid]⟩
  case round =>
    obtain ⟨k, hk, rfl, hall⟩ := hrel
    by_cases hlt : k < s.size
    · have dlt : decide (k < s.size) = true := by simpa using hlt
      have hc := inMail_any s[k] w
      have HT := Lib.hid (take_snoc s k hlt)
      have HG := Lib.hid (getE? s k hlt)
      cases hd : mailB s[k] with
      | true =>
        rw [hd] at hc
        have HV := Lib.hid (show (s.data.toList.take (k + 1)).all mailB = true by rw [HT.out, List.all_append, hall.out, List.all_cons, hd]; rfl)
        clear hd
        go_wp2_with fail
        refine hc.mono ?_
        clear hc
        rintro e w' ⟨rfl, rfl⟩
        go_wp2
        go_round
        case rel => exact ⟨k + 1, by omega, by go_num, HV⟩
        case measure => simp [RowKit.intOf]; omega
      | false =>
        rw [hd] at hc
        have HV := Lib.hid (tw_stop mailB s.data.toList k (by rw [← HL.out]; omega) hall.out (.inr ⟨s[k], HG.out, hd⟩))
        clear hd
        go_wp2_with fail
        refine hc.mono ?_
        clear hc
        rintro e w' ⟨rfl, rfl⟩
        go_wp2
        go_quiet (fail)
        go_wp2
        go_ret2
        exact FrontOut.mk hk HV.out (below_drewN (Below.refl _ _) _)
    · have dlt : decide (k < s.size) = false := by simpa using hlt
      have HV := Lib.hid (tw_stop mailB s.data.toList k (by rw [← HL.out]; omega) hall.out (.inl (by rw [← HL.out]; omega)))
      go_wp2
      go_quiet (fail)
      go_wp2
      go_ret2
      exact FrontOut.mk hk HV.out (below_drewN (Below.refl _ _) _)
theorem list3 (s : ByteArray) (h : 3 ≤ s.size) : s.data.toList = s[0] :: s[1] :: s[2] :: s.data.toList.drop 3 := by
  have e0 := drop_at s 0 (by omega)
  have e1 := drop_at s 1 (by omega)
  have e2 := drop_at s 2 (by omega)
  rw [List.drop_zero, show 0 + 1 = 1 from rfl, e1, show 1 + 1 = 2 from rfl, e2] at e0
  exact e0
set_option maxRecDepth 100000 in
theorem isEscape_any (s : ByteArray) (w : World) (hs : s.size ≤ 1000000) : Calls Tryz.prog 71 #[.string s] w fun e w' => e = .returned (.bool (isEsc s.data.toList)) ∧ w = w' := by
  by_cases h3 : s.size < 3
  · have HV := Lib.hid (isEsc_short s.data.toList (by rw [← size_list]; exact h3))
    go_enter Tryz.func71, Tryz.ntmps71
    go_wp2
    go_ret
    exact ⟨ret_bool HV.out.symm, rfl⟩
  have h3' : 3 ≤ s.size := by omega
  have h0 : 0 < s.size := by omega
  have h1 : 1 < s.size := by omega
  have h2 : 2 < s.size := by omega
  clear h3
  have HV := Lib.hid (show isEsc s.data.toList = (s[0] == 37 && (hexB s[1] && hexB s[2])) by rw [list3 s h3']; exact isEsc3 _ _ _ _)
  have c1 := isHex_any s[1] w
  have c2 := isHex_any s[2] w
  by_cases a : s[0] = 37
  · have b : ((s[0].toNat : Int) == 37) = true := beqT _ 37 a
    have b2 : (s[0] == 37) = true := by rw [a]; rfl
    have HB := Lib.hid b2
    clear a b2
    cases k1 : hexB s[1] with
    | false =>
      rw [k1] at c1
      have HK := Lib.hid k1
      clear k1
      go_enter Tryz.func71, Tryz.ntmps71
      go_wp2_with fail
      refine c1.mono ?_
      rintro e w' ⟨rfl, rfl⟩
      go_wp2
      go_ret
      exact ⟨ret_bool (by rw [HV.out, HB.out, HK.out]; rfl), rfl⟩
    | true =>
      rw [k1] at c1
      have HK := Lib.hid k1
      clear k1
      go_enter Tryz.func71, Tryz.ntmps71
      go_wp2_with fail
      refine c1.mono ?_
      rintro e w' ⟨rfl, rfl⟩
      go_wp2_with fail
      refine c2.mono ?_
      rintro e w' ⟨rfl, rfl⟩
      go_wp2
      go_ret
      exact ⟨ret_bool (by rw [HV.out, HB.out, HK.out]; rfl), rfl⟩
  · have b : ((s[0].toNat : Int) == 37) = false := beqF _ 37 a
    have HB := Lib.hid (show (s[0] == 37) = false by simpa using a)
    clear a
    go_enter Tryz.func71, Tryz.ntmps71
    go_wp2
    go_ret
    exact ⟨ret_bool (by rw [HV.out, HB.out]; rfl), rfl⟩
set_option maxRecDepth 100000 in
theorem isPath_any (s : ByteArray) (w : World) (hs : s.size ≤ 1000000) : Calls Tryz.prog 49 #[.string s] w fun e w' => e = .returned (.bool (pathB s.data.toList)) ∧ w = w' := by
  by_cases h0 : s.size = 0
  · obtain rfl := empty_of s h0
    clear h0
    go_enter Tryz.func49, Tryz.ntmps49
    go_wp2
    go_ret
    exact ⟨rfl, rfl⟩
  have hp : 0 < s.size := by omega
  clear h0
  have hne := list_ne s hp
  have hne2 : (s.toList == ([] : List UInt8)) = false := by simpa using hne
  have e0 := drop_at s 0 hp
  rw [List.drop_zero] at e0
  by_cases a : s[0] = 47
  · have b : ((s[0].toNat : Int) == 47) = true := beqT _ 47 a
    have HV := Lib.hid (show pathB s.data.toList = true by rw [e0, a]; rfl)
    clear a e0
    go_enter Tryz.func49, Tryz.ntmps49
    go_wp2
    go_ret
    exact ⟨ret_bool HV.out.symm, rfl⟩
  · have b : ((s[0].toNat : Int) == 47) = false := beqF _ 47 a
    have HV := Lib.hid (show pathB s.data.toList = false by rw [e0]; simpa [pathB] using a)
    clear a e0
    go_enter Tryz.func49, Tryz.ntmps49
    go_wp2
    go_ret
    exact ⟨ret_bool HV.out.symm, rfl⟩
theorem tailOk_step (c : UInt8) (r : List UInt8) : tailOk (c :: r) = (tailB c && (c != 37 || escAt r) && tailOk r) := rfl
set_option maxRecDepth 100000 in
set_option maxHeartbeats 1000000 in
theorem isTail_any (s : ByteArray) (w : World) (hs : s.size ≤ 1000000) : Calls Tryz.prog 48 #[.string s] w fun e w' => e = .returned (.bool (tailOk s.data.toList)) ∧ w = w' := by
  have HL := Lib.hid (size_list s)
  go_enter Tryz.func48, Tryz.ntmps48
  go_wp2
  go_loop [6] (fun i => ∃ k : Nat, k ≤ s.size ∧ i = .int .i64 k ∧ Hid (tailOk s.data.toList = tailOk (s.data.toList.drop k))) (fun i => s.size - (RowKit.intOf i).toNat)
  case atStart => exact ⟨0, Nat.zero_le _, rfl, by simp [Hid]⟩
  case round =>
    obtain ⟨k, hk, rfl, hac⟩ := hrel
    by_cases hlt : k < s.size
    · have dlt : decide (k < s.size) = true := by simpa using hlt
      have hc := inTail_any s[k] w
      have HS := Lib.hid (show tailOk s.data.toList = (tailB s[k] && (s[k] != 37 || escAt (s.data.toList.drop (k + 1))) && tailOk (s.data.toList.drop (k + 1))) by rw [hac.out, drop_at s k hlt]; rfl)
      cases hd : tailB s[k] with
      | false =>
        rw [hd] at hc
        have HV := Lib.hid (show tailOk s.data.toList = false by rw [HS.out, hd]; rfl)
        clear hd
        go_wp2_with fail
        refine hc.mono ?_
        clear hc
        rintro e w' ⟨rfl, rfl⟩
        go_wp2
        go_ret
        exact ⟨ret_bool HV.out.symm, rfl⟩
      | true =>
        rw [hd] at hc
        by_cases a : s[k] = 37
        · have b : ((s[k].toNat : Int) == 37) = true := beqT _ 37 a
          have h2 := isEscape_any (s.extract k s.size) w (by simp; omega)
          have HE : isEsc (s.extract k s.size).data.toList = escAt (s.data.toList.drop (k + 1)) := by
            rw [drop_extract, drop_at s k hlt, a]; simp [isEsc]
          cases he : escAt (s.data.toList.drop (k + 1)) with
          | true =>
            rw [HE, he] at h2
            have HV : Hid (tailOk s.data.toList = tailOk (s.data.toList.drop (k + 1))) := by show _ = _; rw [HS.out, hd, he]; simp
            clear hd HE he a
            go_wp2_with fail
            refine hc.mono ?_
            clear hc
            rintro e w' ⟨rfl, rfl⟩
            go_wp2_with fail
            refine h2.mono ?_
            clear h2
            rintro e w' ⟨rfl, rfl⟩
            go_wp2
            go_round
            case rel => exact ⟨k + 1, by omega, by go_num, HV⟩
            case measure => simp [RowKit.intOf]; omega
          | false =>
            rw [HE, he] at h2
            have HV := Lib.hid (show tailOk s.data.toList = false by rw [HS.out, hd, he, a]; rfl)
            clear hd HE he a
            go_wp2_with fail
            refine hc.mono ?_
            clear hc
            rintro e w' ⟨rfl, rfl⟩
            go_wp2_with fail
            refine h2.mono ?_
            clear h2
            rintro e w' ⟨rfl, rfl⟩
            go_wp2
            go_ret
            exact ⟨ret_bool HV.out.symm, rfl⟩
        · have b : ((s[k].toNat : Int) == 37) = false := beqF _ 37 a
          have HV : Hid (tailOk s.data.toList = tailOk (s.data.toList.drop (k + 1))) := by show _ = _; rw [HS.out, hd, show (s[k] != 37) = true by simpa using a]; simp
          clear hd a
          go_wp2_with fail
          refine hc.mono ?_
          clear hc
          rintro e w' ⟨rfl, rfl⟩
          go_wp2
          go_round
          case rel => exact ⟨k + 1, by omega, by go_num, HV⟩
          case measure => simp [RowKit.intOf]; omega
    · have dlt : decide (k < s.size) = false := by simpa using hlt
      have HV := Lib.hid (show tailOk s.data.toList = true by rw [hac.out, List.drop_of_length_le (by rw [← HL.out]; omega)]; rfl)
      go_wp2
      go_ret
      exact ⟨ret_bool HV.out.symm, rfl⟩
end Go.Proofs.YtlgggibdgfdmhaaGreatDoor
