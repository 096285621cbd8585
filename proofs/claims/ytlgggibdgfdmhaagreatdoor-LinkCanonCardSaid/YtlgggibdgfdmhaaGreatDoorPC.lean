/-
  The walks of the document's digit and Number of layer 2 (the bases 16 and 10), as layer 4 calls them. Conditions: texts of at most a million bytes, at most seven digits.
-/
import Derived.Test.YtlgggibdgfdmhaaGreatDoorKC
namespace Go.Proofs.YtlgggibdgfdmhaaGreatDoor
open Go.RowKit
open Go.Lib

def digN (c : UInt8) : Int := if 48 ≤ c.toNat ∧ c.toNat ≤ 57 then (c.toNat : Int) - 48 else if 97 ≤ c.toNat ∧ c.toNat ≤ 102 then (c.toNat : Int) - 87 else if 65 ≤ c.toNat ∧ c.toNat ≤ 70 then (c.toNat : Int) - 55 else -1
theorem digN_bd (c : UInt8) : -1 ≤ digN c ∧ digN c ≤ 15 := by unfold digN; repeat' split
                                                              all_goals omega
def isD (base : Int) (c : UInt8) : Bool := decide (0 ≤ digN c) && decide (digN c < base)
def valD (base : Int) (l : List UInt8) : Int := l.foldl (fun n c => n * base + digN c) 0
theorem valD_snoc (base : Int) (l : List UInt8) (c : UInt8) : valD base (l ++ [c]) = valD base l * base + digN c := by simp [valD]
def digs (base : Int) (most : Nat) (l : List UInt8) : List UInt8 := (l.take most).takeWhile (isD base)
theorem digs_length (base : Int) (most : Nat) (l : List UInt8) : (digs base most l).length ≤ most ∧ (digs base most l).length ≤ l.length := by
  unfold digs
  have h1 := (List.takeWhile_prefix (p := isD base) (l := l.take most)).length_le
  rw [List.length_take] at h1
  omega
theorem digs_all (base : Int) (most : Nat) (l : List UInt8) : ∀ c ∈ digs base most l, isD base c = true := fun c hc => by
  have := List.all_takeWhile (p := isD base) (l := l.take most)
  exact List.all_eq_true.1 this c hc
theorem digs_pre (base : Int) (most : Nat) (l : List UInt8) : digs base most l = l.take (digs base most l).length := by
  have h1 : digs base most l <+: l := (List.takeWhile_prefix _).trans (List.take_prefix _ _)
  exact List.prefix_iff_eq_take.1 h1
theorem valD_bd (base : Int) (hb : 0 ≤ base) (hb2 : base ≤ 16) (l : List UInt8) (hl : l.length ≤ 7) (hall : l.all (isD base) = true) : 0 ≤ valD base l ∧ valD base l ≤ 268435455 := by
  have : ∀ (l : List UInt8) (n m : Int), 0 ≤ n → n ≤ m → (∀ c ∈ l, isD base c = true) → 0 ≤ l.foldl (fun n c => n * base + digN c) n ∧ l.foldl (fun n c => n * base + digN c) n ≤ (m + 1) * 16 ^ l.length - 1 := by
    intro l
    induction l with
    | nil => intro n m h0 h1 _; simp; omega
    | cons c l ih =>
      intro n m h0 h1 hc
      have hd := hc c List.mem_cons_self
      simp [isD] at hd
      have hp := Int.mul_nonneg h0 hb
      have hq : n * base ≤ m * 16 := Int.mul_le_mul h1 hb2 hb (by omega)
      have := ih (n * base + digN c) (m * 16 + 15) (by omega) (by omega) (fun d hd => hc d (List.mem_cons_of_mem _ hd))
      rw [List.foldl_cons, List.length_cons, Int.pow_succ]
      refine ⟨this.1, Int.le_trans this.2 ?_⟩
      have e : (m * 16 + 15 + 1) * (16 : Int) ^ l.length = (m + 1) * (16 ^ l.length * 16) := by
        rw [show m * 16 + 15 + 1 = (m + 1) * 16 by omega, Int.mul_assoc, Int.mul_comm 16]
      omega
  have h := this l 0 0 (by omega) (by omega) (List.all_eq_true.1 hall)
  refine ⟨h.1, Int.le_trans h.2 ?_⟩
  have hp : (16 : Int) ^ l.length ≤ 16 ^ 7 := by
    have := Nat.pow_le_pow_right (n := 16) (by omega) hl
    exact_mod_cast this
  omega

def digB (base : Int) (c : UInt8) : Int := if digN c < base then digN c else -1
theorem digB_yes {base : Int} {c : UInt8} (h : isD base c = true) : digB base c = digN c := by
  simp [isD] at h; unfold digB; rw [if_pos h.2]
theorem digB_no {base : Int} {c : UInt8} (h : isD base c = false) : digB base c = -1 := by
  unfold digB
  split
  · rename_i h2
    have hb := digN_bd c
    have : ¬ 0 ≤ digN c := fun h3 => by
      have : isD base c = true := by simp [isD, h2, h3]
      rw [this] at h; cases h
    omega
  · rfl
set_option maxRecDepth 100000 in
theorem rdigit_any (c : UInt8) (base : Int) (w : World) (hb0 : 0 ≤ base) : Calls Tryz.prog 52 #[.int .u8 c.toNat, .int .i64 base] w fun e w' => e = .returned (.int .i64 (digB base c)) ∧ w = w' := by
  have hc : c.toNat < 256 := UInt8.toNat_lt c
  have fin : ∀ (x y : Int), digN c = x → (x < base ∧ y = x ∨ base ≤ x ∧ y = -1) → y = digB base c := by
    intro x y h1 h2
    unfold digB
    rw [h1]
    rcases h2 with ⟨h2, h3⟩ | ⟨h2, h3⟩
    · rw [if_pos h2, h3]
    · rw [if_neg (by omega), h3]
  have FIN := Lib.hid fin
  clear fin
  by_cases a : 48 ≤ c.toNat ∧ c.toNat ≤ 57
  · have HD := Lib.hid (show digN c = (c.toNat : Int) - 48 by unfold digN; rw [if_pos a])
    obtain ⟨a1, a2⟩ := a
    by_cases hb : base ≤ (c.toNat : Int) - 48
    all_goals
      go_enter Tryz.func52, Tryz.ntmps52
      go_wp2
      go_ret
      exact ⟨ret_int (FIN.out _ _ HD.out (by omega)), rfl⟩
  by_cases b : 97 ≤ c.toNat ∧ c.toNat ≤ 102
  · have HD := Lib.hid (show digN c = (c.toNat : Int) - 97 + 10 by unfold digN; rw [if_neg a, if_pos b]; omega)
    obtain ⟨b1, b2⟩ := b
    by_cases hb : base ≤ (c.toNat : Int) - 97 + 10
    all_goals
      go_enter Tryz.func52, Tryz.ntmps52
      go_wp2
      go_ret
      exact ⟨ret_int (FIN.out _ _ HD.out (by omega)), rfl⟩
  by_cases d : 65 ≤ c.toNat ∧ c.toNat ≤ 70
  · have HD := Lib.hid (show digN c = (c.toNat : Int) - 65 + 10 by unfold digN; rw [if_neg a, if_neg b, if_pos d]; omega)
    obtain ⟨d1, d2⟩ := d
    by_cases hb : base ≤ (c.toNat : Int) - 65 + 10
    all_goals
      go_enter Tryz.func52, Tryz.ntmps52
      go_wp2
      go_ret
      exact ⟨ret_int (FIN.out _ _ HD.out (by omega)), rfl⟩
  · have HD := Lib.hid (show digN c = -1 by unfold digN; rw [if_neg a, if_neg b, if_neg d])
    go_enter Tryz.func52, Tryz.ntmps52
    go_wp2
    all_goals first | (exfalso; omega) | (go_ret; exact ⟨ret_int (FIN.out _ _ HD.out (by omega)), rfl⟩)

theorem digs_stop (base : Int) (m : Nat) (l : List UInt8) (k : Nat) (hk : k ≤ l.length) (hm : k ≤ m) (hall : (l.take k).all (isD base) = true) (hend : k = l.length ∨ k = m ∨ ∃ c, l[k]? = some c ∧ isD base c = false) : digs base m l = l.take k := by
  unfold digs
  have e : l.take m = l.take k ++ (l.take m).drop k := by
    have h := (List.take_append_drop k (l.take m)).symm
    rw [List.take_take, Nat.min_eq_left hm] at h
    exact h
  rw [e, List.takeWhile_append_of_pos (fun c hc => List.all_eq_true.1 hall c hc)]
  have : ((l.take m).drop k).takeWhile (isD base) = [] := by
    rcases hend with h | h | ⟨c, h1, h2⟩
    · rw [List.drop_of_length_le (by rw [List.length_take]; omega)]; rfl
    · rw [List.drop_of_length_le (by rw [List.length_take]; omega)]; rfl
    · by_cases hkm : k = m
      · rw [List.drop_of_length_le (by rw [List.length_take]; omega)]; rfl
      · have hg : (l.take m)[k]? = some c := by rw [List.getElem?_take_of_lt (by omega)]; exact h1
        obtain ⟨hlt, hgv⟩ := List.getElem?_eq_some_iff.1 hg
        rw [List.drop_eq_getElem_cons hlt, hgv, List.takeWhile_cons, h2]
        rfl
  rw [this, List.append_nil]
/-- What Number answers. -/
def NumOut (base : Int) (m : Nat) (l : List UInt8) (w : World) (e : Ending) (w' : World) : Prop := e = .returned (.tuple #[.int .i64 (valD base (digs base m l)), .int .i64 (digs base m l).length]) ∧ w = w'
theorem NumOut.mk {base : Int} {m k : Nat} {l : List UInt8} {w : World} (h : digs base m l = l.take k) (hk : k ≤ l.length) : NumOut base m l w (.returned (.tuple #[.int .i64 (valD base (l.take k)), .int .i64 k])) w := by
  unfold NumOut; rw [h, List.length_take, Nat.min_eq_left hk]; exact ⟨rfl, rfl⟩
set_option maxRecDepth 100000 in
set_option maxHeartbeats 1000000 in
theorem rnumber16_any (s : ByteArray) (m : Nat) (w : World) (hs : s.size ≤ 1000000) (hm : m ≤ 7) : Calls Tryz.prog 27 #[.string s, .int .i64 16, .int .i64 m] w (NumOut 16 m s.data.toList w) := by
  have HL := Lib.hid (size_list s)
  go_enter Tryz.func27, Tryz.ntmps27
  go_wp2
  go_loop [8, 9] (fun n i => ∃ k : Nat, k ≤ s.size ∧ k ≤ m ∧ i = .int .i64 k ∧ n = .int .i64 (valD 16 (s.data.toList.take k)) ∧ Hid ((s.data.toList.take k).all (isD 16) = true)) (fun _ i => s.size - (RowKit.intOf i).toNat)
  case atStart => exact ⟨0, Nat.zero_le _, Nat.zero_le _, rfl, rfl, by simp [Hid]⟩
  case round =>
    obtain ⟨k, hk, hkm, rfl, rfl, hall⟩ := hrel
    have hbd := valD_bd 16 (by omega) (by omega) (s.data.toList.take k) (by rw [List.length_take]; omega) hall.out
    by_cases hlt : k < s.size
    · have dlt : decide (k < s.size) = true := by simpa using hlt
      by_cases hlm : k < m
      · have dlm : decide (k < m) = true := by simpa using hlm
        have HT := Lib.hid (take_snoc s k hlt)
        have HS := Lib.hid (valD_snoc 16 (s.data.toList.take k) s[k])
        have HG := Lib.hid (getE? s k hlt)
        have hdb := digN_bd s[k]
        have hdg := rdigit_any s[k] 16 w (by omega)
        cases hd : isD 16 s[k] with
        | true =>
          rw [digB_yes hd] at hdg
          have hd0 : 0 ≤ digN s[k] := by simp [isD] at hd; exact hd.1
          have HD := Lib.hid hd
          clear hd
          generalize valD 16 (s.data.toList.take k) = v at *
          generalize digN s[k] = q at *
          have hcm := Lib.hid (Int.mul_comm 16 v)
          go_wp2_with fail
          refine hdg.mono ?_
          rintro e w' ⟨rfl, rfl⟩
          go_wp2_with fail
          refine hdg.mono ?_
          clear hdg
          rintro e w' ⟨rfl, rfl⟩
          go_wp2
          go_round
          case rel => exact ⟨k + 1, by omega, by omega, by go_num, by rw [HT.out, HS.out, ← hcm.out], by show _ = true; rw [HT.out, List.all_append, hall.out]; simp [HD.out]⟩
          case measure => simp [RowKit.intOf]; omega
        | false =>
          rw [digB_no hd] at hdg
          have HV := Lib.hid (digs_stop 16 m s.data.toList k (by rw [← HL.out]; omega) hkm hall.out (.inr (.inr ⟨s[k], HG.out, hd⟩)))
          clear hd
          go_wp2_with fail
          refine hdg.mono ?_
          clear hdg
          rintro e w' ⟨rfl, rfl⟩
          go_wp2
          go_ret2
          exact NumOut.mk HV.out (by rw [← HL.out]; omega)
      · have dlm : decide (k < m) = false := by simpa using hlm
        have HV := Lib.hid (digs_stop 16 m s.data.toList k (by rw [← HL.out]; omega) hkm hall.out (.inr (.inl (by omega))))
        go_wp2
        all_goals first | (exfalso; omega) | (go_ret2; exact NumOut.mk HV.out (by rw [← HL.out]; omega))
    · have dlt : decide (k < s.size) = false := by simpa using hlt
      have HV := Lib.hid (digs_stop 16 m s.data.toList k (by rw [← HL.out]; omega) hkm hall.out (.inl (by rw [← HL.out]; omega)))
      go_wp2
      all_goals first | (exfalso; omega) | (go_ret2; exact NumOut.mk HV.out (by rw [← HL.out]; omega))
set_option maxRecDepth 100000 in
set_option maxHeartbeats 1000000 in
theorem rnumber10_any (s : ByteArray) (m : Nat) (w : World) (hs : s.size ≤ 1000000) (hm : m ≤ 7) : Calls Tryz.prog 27 #[.string s, .int .i64 10, .int .i64 m] w (NumOut 10 m s.data.toList w) := by
  have HL := Lib.hid (size_list s)
  go_enter Tryz.func27, Tryz.ntmps27
  go_wp2
  go_loop [8, 9] (fun n i => ∃ k : Nat, k ≤ s.size ∧ k ≤ m ∧ i = .int .i64 k ∧ n = .int .i64 (valD 10 (s.data.toList.take k)) ∧ Hid ((s.data.toList.take k).all (isD 10) = true)) (fun _ i => s.size - (RowKit.intOf i).toNat)
  case atStart => exact ⟨0, Nat.zero_le _, Nat.zero_le _, rfl, rfl, by simp [Hid]⟩
  case round =>
    obtain ⟨k, hk, hkm, rfl, rfl, hall⟩ := hrel
    have hbd := valD_bd 10 (by omega) (by omega) (s.data.toList.take k) (by rw [List.length_take]; omega) hall.out
    by_cases hlt : k < s.size
    · have dlt : decide (k < s.size) = true := by simpa using hlt
      by_cases hlm : k < m
      · have dlm : decide (k < m) = true := by simpa using hlm
        have HT := Lib.hid (take_snoc s k hlt)
        have HS := Lib.hid (valD_snoc 10 (s.data.toList.take k) s[k])
        have HG := Lib.hid (getE? s k hlt)
        have hdb := digN_bd s[k]
        have hdg := rdigit_any s[k] 10 w (by omega)
        cases hd : isD 10 s[k] with
        | true =>
          rw [digB_yes hd] at hdg
          have hd0 : 0 ≤ digN s[k] := by simp [isD] at hd; exact hd.1
          have HD := Lib.hid hd
          clear hd
          generalize valD 10 (s.data.toList.take k) = v at *
          generalize digN s[k] = q at *
          have hcm := Lib.hid (Int.mul_comm 10 v)
          go_wp2_with fail
          refine hdg.mono ?_
          rintro e w' ⟨rfl, rfl⟩
          go_wp2_with fail
          refine hdg.mono ?_
          clear hdg
          rintro e w' ⟨rfl, rfl⟩
          go_wp2
          go_round
          case rel => exact ⟨k + 1, by omega, by omega, by go_num, by rw [HT.out, HS.out, ← hcm.out], by show _ = true; rw [HT.out, List.all_append, hall.out]; simp [HD.out]⟩
          case measure => simp [RowKit.intOf]; omega
        | false =>
          rw [digB_no hd] at hdg
          have HV := Lib.hid (digs_stop 10 m s.data.toList k (by rw [← HL.out]; omega) hkm hall.out (.inr (.inr ⟨s[k], HG.out, hd⟩)))
          clear hd
          go_wp2_with fail
          refine hdg.mono ?_
          clear hdg
          rintro e w' ⟨rfl, rfl⟩
          go_wp2
          go_ret2
          exact NumOut.mk HV.out (by rw [← HL.out]; omega)
      · have dlm : decide (k < m) = false := by simpa using hlm
        have HV := Lib.hid (digs_stop 10 m s.data.toList k (by rw [← HL.out]; omega) hkm hall.out (.inr (.inl (by omega))))
        go_wp2
        all_goals first | (exfalso; omega) | (go_ret2; exact NumOut.mk HV.out (by rw [← HL.out]; omega))
    · have dlt : decide (k < s.size) = false := by simpa using hlt
      have HV := Lib.hid (digs_stop 10 m s.data.toList k (by rw [← HL.out]; omega) hkm hall.out (.inl (by rw [← HL.out]; omega)))
      go_wp2
      all_goals first | (exfalso; omega) | (go_ret2; exact NumOut.mk HV.out (by rw [← HL.out]; omega))
end Go.Proofs.YtlgggibdgfdmhaaGreatDoor
