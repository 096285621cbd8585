/-
  Of the proofs of layer 7 (values of JSON): the parts EA EB EC ED EE EG EF. No conditions.
-/
import Derived.Test.YtchgelfomnbpaaaDoorZ04
import Derived.Test.YtchgelfomnbpaaaDoorZ17
namespace Go.Proofs.YtchgelfomnbpaaaDoor
open Go.RowKit
open Go.Lib

theorem size_list (s : ByteArray) : s.size = s.data.toList.length := by simp
theorem getD_at (s : ByteArray) (k : Nat) (h : k < s.size) : s.data.toList[k]'(by simpa using h) = s[k] := rfl
theorem take_snoc (s : ByteArray) (k : Nat) (h : k < s.size) : s.data.toList.take (k + 1) = s.data.toList.take k ++ [s[k]] := by
  rw [List.take_succ_eq_append_getElem (by simpa using h)]; rfl
theorem valD_bd (base : Int) (hb : 0 ≤ base) (hb2 : base ≤ 16) (l : List UInt8) (hl : l.length ≤ 7) (hall : l.all (isD base) = true) : 0 ≤ valD base l ∧ valD base l ≤ 268435455 := by
  have : ∀ (l : List UInt8) (n m : Int), 0 ≤ n → n ≤ m → (∀ c ∈ l, isD base c = true) → 0 ≤ l.foldl (fun n c => n * base + digN c) n ∧ l.foldl (fun n c => n * base + digN c) n ≤ (m + 1) * 16 ^ l.length - 1 := by
    intro l
    induction l with
    | nil => intro n m h0 h1 _; simp; omega
    | cons c l ih =>
      intro n m h0 h1 hc
      have hd := hc c List.mem_cons_self
      simp [isD] at hd
      have hp := Int.mul_nonneg h0 hb
      have hq : n * base ≤ m * 16 := Int.mul_le_mul h1 hb2 hb (by omega)
      have := ih (n * base + digN c) (m * 16 + 15) (by omega) (by omega) (fun d hd => hc d (List.mem_cons_of_mem _ hd))
      rw [List.foldl_cons, List.length_cons, Int.pow_succ]
      refine ⟨this.1, Int.le_trans this.2 ?_⟩
      have e : (m * 16 + 15 + 1) * (16 : Int) ^ l.length = (m + 1) * (16 ^ l.length * 16) := by
        rw [show m * 16 + 15 + 1 = (m + 1) * 16 by omega, Int.mul_assoc, Int.mul_comm 16]
      omega
  have h := this l 0 0 (by omega) (by omega) (List.all_eq_true.1 hall)
  refine ⟨h.1, Int.le_trans h.2 ?_⟩
  have hp : (16 : Int) ^ l.length ≤ 16 ^ 7 := by
    have := Nat.pow_le_pow_right (n := 16) (by omega) hl
    exact_mod_cast this
  omega

set_option maxRecDepth 100000 in
theorem digit_any (c : UInt8) (w : World) : Calls Tryd.prog 112 #[.int .u8 c.toNat] w fun e w' => e = .returned (.int .i64 (digN c)) ∧ w = w' := by
  have hc : c.toNat < 256 := UInt8.toNat_lt c
  by_cases a : 48 ≤ c.toNat ∧ c.toNat ≤ 57
  · obtain ⟨a1, a2⟩ := a
    go_enter Tryd.func112, Tryd.ntmps112
    go_wp2
    go_ret
    exact ⟨ret_int (by unfold digN; rw [if_pos ⟨a1, a2⟩]), rfl⟩
  by_cases b : 97 ≤ c.toNat ∧ c.toNat ≤ 102
  · obtain ⟨b1, b2⟩ := b
    go_enter Tryd.func112, Tryd.ntmps112
    go_wp2
    go_ret
    exact ⟨ret_int (by unfold digN; rw [if_neg a, if_pos ⟨b1, b2⟩]; omega), rfl⟩
  by_cases d : 65 ≤ c.toNat ∧ c.toNat ≤ 70
  · obtain ⟨d1, d2⟩ := d
    go_enter Tryd.func112, Tryd.ntmps112
    go_wp2
    go_ret
    exact ⟨ret_int (by unfold digN; rw [if_neg a, if_neg b, if_pos ⟨d1, d2⟩]; omega), rfl⟩
  · have HV := Lib.hid (show digN c = -1 by unfold digN; rw [if_neg a, if_neg b, if_neg d])
    go_enter Tryd.func112, Tryd.ntmps112
    go_wp2
    all_goals first | (exfalso; omega) | (go_ret; exact ⟨ret_int (by rw [HV.out]), rfl⟩)
end Go.Proofs.YtchgelfomnbpaaaDoor
namespace Go.Proofs.YtchgelfomnbpaaaDoor
open Go.RowKit
open Go.Lib

theorem empty_of (s : ByteArray) (h : s.size = 0) : s = ⟨#[]⟩ := by
  apply ByteArray.ext
  exact Array.eq_empty_of_size_eq_zero h
theorem list_ne (s : ByteArray) (h : 0 < s.size) : s.toList ≠ [] := by
  rw [Lib.toList_data]
  intro e
  have := congrArg List.length e
  rw [← size_list s, List.length_nil] at this
  omega
theorem numP_bad {base : Int} {m : Nat} {l : List UInt8} (c : UInt8) (hc : c ∈ l) (h : isD base c = false) : numP base m l = -1 := by
  apply numP_neg
  refine .inr (.inr ?_)
  rw [Bool.eq_false_iff]
  intro ha
  rw [List.all_eq_true.1 ha c hc] at h
  cases h
theorem numP_good {base : Int} {m : Nat} {l : List UInt8} (h0 : l ≠ []) (h1 : l.length ≤ m) (h2 : l.all (isD base) = true) : numP base m l = valD base l := by
  unfold numP
  rw [if_neg]
  rintro (h | h | h)
  · exact h0 h
  · omega
  · rw [h2] at h; cases h

set_option maxRecDepth 100000 in
theorem number16_any (s : ByteArray) (m : Nat) (w : World) (hm : m ≤ 7) : Calls Tryd.prog 111 #[.string s, .int .i64 16, .int .i64 m] w fun e w' => e = .returned (.int .i64 (numP 16 m s.data.toList)) ∧ w = w' := by
  by_cases h0 : s.size = 0
  · obtain rfl := empty_of s h0
    clear h0
    go_enter Tryd.func111, Tryd.ntmps111
    go_wp2
    go_ret
    exact ⟨ret_int (by rw [numP_neg _ _ _ (.inl rfl)]), rfl⟩
  have hp : 0 < s.size := by omega
  clear h0
  have hne := list_ne s hp
  have hne2 : (s.toList == ([] : List UInt8)) = false := by simpa using hne
  have HL := Lib.hid (size_list s)
  by_cases h1 : m < s.size
  · have HV := Lib.hid (numP_neg 16 m s.data.toList (.inr (.inl (by rw [← HL.out]; exact h1))))
    go_enter Tryd.func111, Tryd.ntmps111
    go_wp2
    all_goals first | (exfalso; omega) | (go_ret; exact ⟨ret_int (by rw [HV.out]), rfl⟩)
  · have h2 : s.size ≤ m := by omega
    clear h1
    have hdm : decide (m < s.size) = false := by simpa using h2
    go_enter Tryd.func111, Tryd.ntmps111
    go_wp2
    go_loop [7, 20] (fun n i => ∃ k : Nat, k ≤ s.size ∧ i = .int .i64 k ∧ n = .int .i64 (valD 16 (s.data.toList.take k)) ∧ Hid ((s.data.toList.take k).all (isD 16) = true)) (fun _ i => s.size - (RowKit.intOf i).toNat)
    case atStart => exact ⟨0, Nat.zero_le _, rfl, rfl, by simp [Hid]⟩
    case round =>
      obtain ⟨k, hk, rfl, rfl, hall⟩ := hrel
      have hbd := valD_bd 16 (by omega) (by omega) (s.data.toList.take k) (by rw [List.length_take]; omega) hall.out
      by_cases hlt : k < s.size
      · have HT := Lib.hid (take_snoc s k hlt)
        have HS := Lib.hid (valD_snoc 16 (s.data.toList.take k) s[k])
        have hmem := Lib.hid (show s[k] ∈ s.data.toList from List.getElem_mem _)
        have hdb := digN_bd s[k]
        by_cases hd : 0 ≤ digN s[k] ∧ digN s[k] < 16
        · obtain ⟨d0, d1⟩ := hd
          have HD := Lib.hid (show isD 16 s[k] = true by simp [isD, d0, d1])
          go_wp2_with (go_at_call 112; refine (digit_any _ _).mono ?_; rintro e w' ⟨rfl, rfl⟩)
          go_round
          case rel => exact ⟨k + 1, by omega, by go_num, by rw [HT.out, HS.out], by show _ = true; rw [HT.out, List.all_append, hall.out]; simp [HD.out]⟩
          case measure => simp [RowKit.intOf]; omega
        · have HV := Lib.hid (show numP 16 m s.data.toList = -1 from numP_bad _ hmem.out (by rw [Bool.eq_false_iff]; intro h; simp [isD] at h; exact hd h))
          have hd2 : digN s[k] < 0 ∨ 16 ≤ digN s[k] := by omega
          clear hd
          rcases hd2 with d0 | d0
          all_goals
            go_wp2_with (go_at_call 112; refine (digit_any _ _).mono ?_; rintro e w' ⟨rfl, rfl⟩)
            all_goals first | (exfalso; omega) | (go_ret; exact ⟨ret_int (by rw [HV.out]), rfl⟩)
      · have HE := Lib.hid (show s.data.toList.take k = s.data.toList from List.take_of_length_le (by simp; omega))
        go_wp2
        go_ret
        refine ⟨ret_int ?_, rfl⟩
        have ha := hall.out
        rw [HE.out] at ha ⊢
        exact (numP_good (by rw [← Lib.toList_data]; exact hne) (by rw [← HL.out]; omega) ha).symm

set_option maxRecDepth 100000 in
theorem number10_any (s : ByteArray) (m : Nat) (w : World) (hm : m ≤ 7) : Calls Tryd.prog 111 #[.string s, .int .i64 10, .int .i64 m] w fun e w' => e = .returned (.int .i64 (numP 10 m s.data.toList)) ∧ w = w' := by
  by_cases h0 : s.size = 0
  · obtain rfl := empty_of s h0
    clear h0
    go_enter Tryd.func111, Tryd.ntmps111
    go_wp2
    go_ret
    exact ⟨ret_int (by rw [numP_neg _ _ _ (.inl rfl)]), rfl⟩
  have hp : 0 < s.size := by omega
  clear h0
  have hne := list_ne s hp
  have hne2 : (s.toList == ([] : List UInt8)) = false := by simpa using hne
  have HL := Lib.hid (size_list s)
  by_cases h1 : m < s.size
  · have HV := Lib.hid (numP_neg 10 m s.data.toList (.inr (.inl (by rw [← HL.out]; exact h1))))
    go_enter Tryd.func111, Tryd.ntmps111
    go_wp2
    all_goals first | (exfalso; omega) | (go_ret; exact ⟨ret_int (by rw [HV.out]), rfl⟩)
  · have h2 : s.size ≤ m := by omega
    clear h1
    have hdm : decide (m < s.size) = false := by simpa using h2
    go_enter Tryd.func111, Tryd.ntmps111
    go_wp2
    go_loop [7, 20] (fun n i => ∃ k : Nat, k ≤ s.size ∧ i = .int .i64 k ∧ n = .int .i64 (valD 10 (s.data.toList.take k)) ∧ Hid ((s.data.toList.take k).all (isD 10) = true)) (fun _ i => s.size - (RowKit.intOf i).toNat)
    case atStart => exact ⟨0, Nat.zero_le _, rfl, rfl, by simp [Hid]⟩
    case round =>
      obtain ⟨k, hk, rfl, rfl, hall⟩ := hrel
      have hbd := valD_bd 10 (by omega) (by omega) (s.data.toList.take k) (by rw [List.length_take]; omega) hall.out
      by_cases hlt : k < s.size
      · have HT := Lib.hid (take_snoc s k hlt)
        have HS := Lib.hid (valD_snoc 10 (s.data.toList.take k) s[k])
        have hmem := Lib.hid (show s[k] ∈ s.data.toList from List.getElem_mem _)
        have hdb := digN_bd s[k]
        by_cases hd : 0 ≤ digN s[k] ∧ digN s[k] < 10
        · obtain ⟨d0, d1⟩ := hd
          have HD := Lib.hid (show isD 10 s[k] = true by simp [isD, d0, d1])
          go_wp2_with (go_at_call 112; refine (digit_any _ _).mono ?_; rintro e w' ⟨rfl, rfl⟩)
          go_round
          case rel => exact ⟨k + 1, by omega, by go_num, by rw [HT.out, HS.out], by show _ = true; rw [HT.out, List.all_append, hall.out]; simp [HD.out]⟩
          case measure => simp [RowKit.intOf]; omega
        · have HV := Lib.hid (show numP 10 m s.data.toList = -1 from numP_bad _ hmem.out (by rw [Bool.eq_false_iff]; intro h; simp [isD] at h; exact hd h))
          have hd2 : digN s[k] < 0 ∨ 10 ≤ digN s[k] := by omega
          clear hd
          rcases hd2 with d0 | d0
          all_goals
            go_wp2_with (go_at_call 112; refine (digit_any _ _).mono ?_; rintro e w' ⟨rfl, rfl⟩)
            all_goals first | (exfalso; omega) | (go_ret; exact ⟨ret_int (by rw [HV.out]), rfl⟩)
      · have HE := Lib.hid (show s.data.toList.take k = s.data.toList from List.take_of_length_le (by simp; omega))
        go_wp2
        go_ret
        refine ⟨ret_int ?_, rfl⟩
        have ha := hall.out
        rw [HE.out] at ha ⊢
        exact (numP_good (by rw [← Lib.toList_data]; exact hne) (by rw [← HL.out]; omega) ha).symm

def hiB (n : Int) : Bool := decide (55296 ≤ n ∧ n ≤ 56319)
set_option maxRecDepth 100000 in
theorem isHigh_any (n : Int) (w : World) : Calls Tryd.prog 110 #[.int .i64 n] w fun e w' => e = .returned (.bool (hiB n)) ∧ w = w' := by
  by_cases h1 : 55296 ≤ n <;> by_cases h2 : n ≤ 56319
  all_goals
    go_enter Tryd.func110, Tryd.ntmps110
    go_wp2
    go_ret
    refine ⟨ret_bool ?_, rfl⟩
    rw [Bool.eq_iff_iff]; simp only [hiB, decide_eq_true_eq, true_iff, false_iff, Bool.false_eq_true]; omega
def loB (n : Int) : Bool := decide (56320 ≤ n ∧ n ≤ 57343)
set_option maxRecDepth 100000 in
theorem isLow_any (n : Int) (w : World) : Calls Tryd.prog 109 #[.int .i64 n] w fun e w' => e = .returned (.bool (loB n)) ∧ w = w' := by
  by_cases h1 : 56320 ≤ n <;> by_cases h2 : n ≤ 57343
  all_goals
    go_enter Tryd.func109, Tryd.ntmps109
    go_wp2
    go_ret
    refine ⟨ret_bool ?_, rfl⟩
    rw [Bool.eq_iff_iff]; simp only [loB, decide_eq_true_eq, true_iff, false_iff, Bool.false_eq_true]; omega
end Go.Proofs.YtchgelfomnbpaaaDoor
namespace Go.Proofs.YtchgelfomnbpaaaDoor
open Go.RowKit
open Go.Lib

theorem getE? (s : ByteArray) (k : Nat) (h : k < s.size) : s.data.toList[k]? = some s[k] := by
  rw [List.getElem?_eq_getElem (by simpa using h)]; rfl
theorem u8_ne (c d : UInt8) (h : c ≠ d) : c.toNat ≠ d.toNat := fun e => h (UInt8.toNat_inj.1 e)
set_option maxRecDepth 100000 in
theorem unit_any (s : ByteArray) (w : World) (hs : s.size ≤ 2000000) : Calls Tryd.prog 108 #[.string s] w fun e w' => e = .returned (.int .i64 (unitQ s.data.toList)) ∧ w = w' := by
  have HL := Lib.hid (size_list s)
  by_cases h6 : s.size < 6
  · have HV := Lib.hid (show unitQ s.data.toList = -1 by unfold unitQ; rw [if_pos (.inl (by rw [← HL.out]; exact h6))])
    go_enter Tryd.func108, Tryd.ntmps108
    go_wp2
    all_goals first | (exfalso; omega) | (go_ret; exact ⟨ret_int (by rw [HV.out]), rfl⟩)
  have h7 : 6 ≤ s.size := by omega
  have k0 : 0 < s.size := by omega
  have k1 : 1 < s.size := by omega
  clear h6
  have g0 := Lib.hid (getE? s 0 k0)
  have g1 := Lib.hid (getE? s 1 k1)
  by_cases a : s[0] = 92
  · by_cases b : s[1] = 117
    · have HV := Lib.hid (show unitQ s.data.toList = numP 16 4 ((s.data.toList.drop 2).take 4) by
        unfold unitQ; rw [if_neg]; rw [g0.out, g1.out, a, b, ← HL.out]; simp; omega)
      have HX := Lib.hid (show (s.extract 2 6).data.toList = (s.data.toList.drop 2).take 4 by simp [ByteArray.data_extract])
      have a1 : ((s[0].toNat : Int) != 92) = false := by rw [a]; decide
      have b1 : ((s[1].toNat : Int) != 117) = false := by rw [b]; decide
      clear a b
      go_enter Tryd.func108, Tryd.ntmps108
      go_wp2_with (go_at_call 111; refine (number16_any _ 4 _ (by omega)).mono ?_; rintro e w' ⟨rfl, rfl⟩)
      go_ret
      exact ⟨ret_int (by rw [HV.out, ← HX.out]), rfl⟩
    · have HV := Lib.hid (show unitQ s.data.toList = -1 by unfold unitQ; rw [if_pos (.inr (.inr (by rw [g1.out]; simpa using b)))])
      have b2 := u8_ne _ _ b
      have a1 : ((s[0].toNat : Int) != 92) = false := by rw [a]; decide
      have b1 : ((s[1].toNat : Int) != 117) = true := by rw [bne_iff_ne]; intro e; exact b2 (by show _ = 117; omega)
      clear a b b2
      go_enter Tryd.func108, Tryd.ntmps108
      go_wp2
      go_ret
      exact ⟨ret_int (by rw [HV.out]), rfl⟩
  · have HV := Lib.hid (show unitQ s.data.toList = -1 by unfold unitQ; rw [if_pos (.inr (.inl (by rw [g0.out]; simpa using a)))])
    have a2 := u8_ne _ _ a
    have a1 : ((s[0].toNat : Int) != 92) = true := by rw [bne_iff_ne]; intro e; exact a2 (by show _ = 92; omega)
    clear a a2
    go_enter Tryd.func108, Tryd.ntmps108
    go_wp2
    go_ret
    exact ⟨ret_int (by rw [HV.out]), rfl⟩

/-- What is answered of a code point and its width, 0 and 0 where there is none. -/
def p0 (e : Int × Nat) : Int := if e.1 < 0 then 0 else e.1
def n0 (e : Int × Nat) : Nat := if e.1 < 0 then 0 else e.2
def unitsQ (u v : Int) : Int × Nat := if 55296 ≤ u ∧ u ≤ 56319 then (if 56320 ≤ v ∧ v ≤ 57343 then (65536 + (u - 55296) * 1024 + (v - 56320), 12) else (-1, 0)) else if isPt u = true then (u, 6) else (-1, 0)
/-- Two results. -/
def Two (p : Int) (n : Nat) (w : World) (e : Ending) (w' : World) : Prop := e = .returned (.tuple #[.int .i32 p, .int .i64 n]) ∧ w = w'
theorem Two.mk {p q : Int} {n m : Nat} {w : World} (h : p = q) (g : n = m) : Two q m w (.returned (.tuple #[.int .i32 p, .int .i64 n])) w := by subst h; subst g; exact ⟨rfl, rfl⟩
set_option maxRecDepth 100000 in
theorem units_any (s : ByteArray) (w : World) (hs : s.size ≤ 2000000) : Calls Tryd.prog 103 #[.string s] w (Two (p0 (unitsQ (unitQ s.data.toList) (unitQ (s.data.toList.drop 6)))) (n0 (unitsQ (unitQ s.data.toList) (unitQ (s.data.toList.drop 6)))) w) := by
  have hl := unitQ_len s.data.toList
  rw [← size_list s] at hl
  have hl2 : 0 ≤ unitQ s.data.toList → 6 ≤ s.size := fun h => (hl h).1
  clear hl
  have hb := unitQ_bd s.data.toList
  have hc := unit_any s w hs
  have hd : unitQ (s.extract 6 s.size).data.toList = unitQ (s.data.toList.drop 6) := by rw [drop_extract]
  have hc2 := unit_any (s.extract 6 s.size) w (by simp; omega)
  have hb2 := unitQ_bd (s.data.toList.drop 6)
  rw [hd] at hc2
  clear hd
  generalize unitQ (s.data.toList.drop 6) = v at *
  generalize unitQ s.data.toList = u at *
  by_cases h0 : u < 0
  · have HV := Lib.hid (show unitsQ u v = (-1, 0) by unfold unitsQ; rw [if_neg (by omega), if_neg (by rw [isPt_iff]; omega)])
    clear hl2
    go_enter Tryd.func103, Tryd.ntmps103
    go_wp2_with fail
    refine hc.mono ?_
    clear hc
    rintro e w' ⟨rfl, rfl⟩
    go_wp2
    go_ret2
    exact Two.mk (by rw [HV.out]; rfl) (by rw [HV.out]; rfl)
  have h1 : 0 ≤ u := by omega
  have h6 := hl2 h1
  clear hl2 h0
  cases hlo : loB u with
  | true =>
    have hq : 56320 ≤ u ∧ u ≤ 57343 := by simpa [loB] using hlo
    have HV := Lib.hid (show unitsQ u v = (-1, 0) by unfold unitsQ; rw [if_neg (by omega), if_neg (by rw [isPt_iff]; omega)])
    go_enter Tryd.func103, Tryd.ntmps103
    go_wp2_with fail
    refine hc.mono ?_
    clear hc
    rintro e w' ⟨rfl, rfl⟩
    go_wp2_with (go_at_call 109; refine (isLow_any _ _).mono ?_; rintro e w' ⟨rfl, rfl⟩)
    go_ret2
    exact Two.mk (by rw [HV.out]; rfl) (by rw [HV.out]; rfl)
  | false =>
    have hq : ¬ (56320 ≤ u ∧ u ≤ 57343) := by simpa [loB] using hlo
    cases hhi : hiB u with
    | false =>
      have hr : ¬ (55296 ≤ u ∧ u ≤ 56319) := by simpa [hiB] using hhi
      have HV := Lib.hid (show unitsQ u v = (u, 6) by unfold unitsQ; rw [if_neg (by omega), if_pos (by rw [isPt_iff]; omega)])
      have HP := Lib.hid (show p0 (u, 6) = u by unfold p0; rw [if_neg]; simp only; omega)
      have HN := Lib.hid (show n0 (u, 6) = 6 by unfold n0; rw [if_neg]; simp only; omega)
      clear hr hq
      go_enter Tryd.func103, Tryd.ntmps103
      go_wp2_with fail
      refine hc.mono ?_
      clear hc
      rintro e w' ⟨rfl, rfl⟩
      go_wp2_with (first | (go_at_call 109; refine (isLow_any _ _).mono ?_; rintro e w' ⟨rfl, rfl⟩) | (go_at_call 110; refine (isHigh_any _ _).mono ?_; rintro e w' ⟨rfl, rfl⟩))
      go_ret2
      exact Two.mk (by rw [HV.out, HP.out]) (by rw [HV.out, HN.out])
    | true =>
      have hr : 55296 ≤ u ∧ u ≤ 56319 := by simpa [hiB] using hhi
      obtain ⟨r1, r2⟩ := hr
      clear hq
      cases hlv : loB v with
      | false =>
        have hq : ¬ (56320 ≤ v ∧ v ≤ 57343) := by simpa [loB] using hlv
        have HV := Lib.hid (show unitsQ u v = (-1, 0) by unfold unitsQ; rw [if_pos (by omega), if_neg hq])
        clear hq
        go_enter Tryd.func103, Tryd.ntmps103
        go_wp2_with fail
        refine hc.mono ?_
        clear hc
        rintro e w' ⟨rfl, rfl⟩
        go_wp2_with (first | (go_at_call 109; refine (isLow_any _ _).mono ?_; rintro e w' ⟨rfl, rfl⟩) | (go_at_call 110; refine (isHigh_any _ _).mono ?_; rintro e w' ⟨rfl, rfl⟩))
        refine hc2.mono ?_
        clear hc2
        rintro e w' ⟨rfl, rfl⟩
        go_wp2_with (go_at_call 109; refine (isLow_any _ _).mono ?_; rintro e w' ⟨rfl, rfl⟩)
        go_ret2
        exact Two.mk (by rw [HV.out]; rfl) (by rw [HV.out]; rfl)
      | true =>
        have hq : 56320 ≤ v ∧ v ≤ 57343 := by simpa [loB] using hlv
        have HV := Lib.hid (show unitsQ u v = (65536 + (u - 55296) * 1024 + (v - 56320), 12) by unfold unitsQ; rw [if_pos (by omega), if_pos hq])
        have HP := Lib.hid (show p0 (65536 + (u - 55296) * 1024 + (v - 56320), 12) = 65536 + (u - 55296) * 1024 + (v - 56320) by unfold p0; rw [if_neg]; simp only; omega)
        have HN := Lib.hid (show n0 (65536 + (u - 55296) * 1024 + (v - 56320), 12) = 12 by unfold n0; rw [if_neg]; simp only; omega)
        obtain ⟨q1, q2⟩ := hq
        go_enter Tryd.func103, Tryd.ntmps103
        go_wp2_with fail
        refine hc.mono ?_
        clear hc
        rintro e w' ⟨rfl, rfl⟩
        go_wp2_with (first | (go_at_call 109; refine (isLow_any _ _).mono ?_; rintro e w' ⟨rfl, rfl⟩) | (go_at_call 110; refine (isHigh_any _ _).mono ?_; rintro e w' ⟨rfl, rfl⟩))
        refine hc2.mono ?_
        clear hc2
        rintro e w' ⟨rfl, rfl⟩
        go_wp2_with (go_at_call 109; refine (isLow_any _ _).mono ?_; rintro e w' ⟨rfl, rfl⟩)
        go_ret2
        exact Two.mk (by rw [HV.out, HP.out]) (by rw [HV.out, HN.out])
end Go.Proofs.YtchgelfomnbpaaaDoor
namespace Go.Proofs.YtchgelfomnbpaaaDoor
open Go.RowKit
open Go.Lib

theorem escQ_two (l : List UInt8) (c : UInt8) (h : l[1]? = some c) : escQ l = if c = 34 then (34, 2) else if c = 92 then (92, 2) else if c = 47 then (47, 2) else if c = 98 then (8, 2) else if c = 102 then (12, 2) else if c = 110 then (10, 2) else if c = 114 then (13, 2) else if c = 116 then (9, 2) else unitsQ (unitQ l) (unitQ (l.drop 6)) := by
  unfold escQ; rw [h]; rfl
theorem escQ_u (l : List UInt8) (c : UInt8) (h : l[1]? = some c) (h1 : c ≠ 34) (h2 : c ≠ 92) (h3 : c ≠ 47) (h4 : c ≠ 98) (h5 : c ≠ 102) (h6 : c ≠ 110) (h7 : c ≠ 114) (h8 : c ≠ 116) : escQ l = unitsQ (unitQ l) (unitQ (l.drop 6)) := by
  rw [escQ_two l c h, if_neg h1, if_neg h2, if_neg h3, if_neg h4, if_neg h5, if_neg h6, if_neg h7, if_neg h8]
theorem beqF (c d : UInt8) (h : c ≠ d) : ((c.toNat : Int) == (d.toNat : Int)) = false := by
  have := u8_ne c d h
  rw [beq_eq_false_iff_ne]
  omega
set_option maxRecDepth 100000 in
theorem escaped_any (s : ByteArray) (w : World) (hs : s.size ≤ 2000000) : Calls Tryd.prog 98 #[.string s] w (Two (p0 (escQ s.data.toList)) (n0 (escQ s.data.toList)) w) := by
  by_cases h2 : s.size < 2
  · have HV := Lib.hid (show escQ s.data.toList = (-1, 0) by
      unfold escQ
      rw [List.getElem?_eq_none (by rw [← size_list]; omega)])
    go_enter Tryd.func98, Tryd.ntmps98
    go_wp2
    go_ret2
    exact Two.mk (by rw [HV.out]; rfl) (by rw [HV.out]; rfl)
  have k1 : 1 < s.size := by omega
  clear h2
  have g1 := Lib.hid (getE? s 1 k1)
  have HQ := Lib.hid (escQ_two s.data.toList s[1] g1.out)
  have hc := units_any s w hs
  by_cases a1 : s[1] = 34
  · have HV := Lib.hid (show escQ s.data.toList = (34, 2) by rw [HQ.out, a1]; rfl)
    have b : s[1].toNat = 34 := by rw [a1]; decide
    clear a1
    go_enter Tryd.func98, Tryd.ntmps98
    go_wp2
    go_ret2
    exact Two.mk (by rw [HV.out]; rfl) (by rw [HV.out]; rfl)
  by_cases a2 : s[1] = 92
  · have HV := Lib.hid (show escQ s.data.toList = (92, 2) by rw [HQ.out, a2]; rfl)
    have b : s[1].toNat = 92 := by rw [a2]; decide
    clear a1 a2
    go_enter Tryd.func98, Tryd.ntmps98
    go_wp2
    go_ret2
    exact Two.mk (by rw [HV.out]; rfl) (by rw [HV.out]; rfl)
  by_cases a3 : s[1] = 47
  · have HV := Lib.hid (show escQ s.data.toList = (47, 2) by rw [HQ.out, a3]; rfl)
    have b : s[1].toNat = 47 := by rw [a3]; decide
    clear a1 a2 a3
    go_enter Tryd.func98, Tryd.ntmps98
    go_wp2
    go_ret2
    exact Two.mk (by rw [HV.out]; rfl) (by rw [HV.out]; rfl)
  by_cases a4 : s[1] = 98
  · have HV := Lib.hid (show escQ s.data.toList = (8, 2) by rw [HQ.out, a4]; rfl)
    have b : s[1].toNat = 98 := by rw [a4]; decide
    clear a1 a2 a3 a4
    go_enter Tryd.func98, Tryd.ntmps98
    go_wp2
    go_ret2
    exact Two.mk (by rw [HV.out]; rfl) (by rw [HV.out]; rfl)
  by_cases a5 : s[1] = 102
  · have HV := Lib.hid (show escQ s.data.toList = (12, 2) by rw [HQ.out, a5]; rfl)
    have b : s[1].toNat = 102 := by rw [a5]; decide
    clear a1 a2 a3 a4 a5
    go_enter Tryd.func98, Tryd.ntmps98
    go_wp2
    go_ret2
    exact Two.mk (by rw [HV.out]; rfl) (by rw [HV.out]; rfl)
  by_cases a6 : s[1] = 110
  · have HV := Lib.hid (show escQ s.data.toList = (10, 2) by rw [HQ.out, a6]; rfl)
    have b : s[1].toNat = 110 := by rw [a6]; decide
    clear a1 a2 a3 a4 a5 a6
    go_enter Tryd.func98, Tryd.ntmps98
    go_wp2
    go_ret2
    exact Two.mk (by rw [HV.out]; rfl) (by rw [HV.out]; rfl)
  by_cases a7 : s[1] = 114
  · have HV := Lib.hid (show escQ s.data.toList = (13, 2) by rw [HQ.out, a7]; rfl)
    have b : s[1].toNat = 114 := by rw [a7]; decide
    clear a1 a2 a3 a4 a5 a6 a7
    go_enter Tryd.func98, Tryd.ntmps98
    go_wp2
    go_ret2
    exact Two.mk (by rw [HV.out]; rfl) (by rw [HV.out]; rfl)
  by_cases a8 : s[1] = 116
  · have HV := Lib.hid (show escQ s.data.toList = (9, 2) by rw [HQ.out, a8]; rfl)
    have b : s[1].toNat = 116 := by rw [a8]; decide
    clear a1 a2 a3 a4 a5 a6 a7 a8
    go_enter Tryd.func98, Tryd.ntmps98
    go_wp2
    go_ret2
    exact Two.mk (by rw [HV.out]; rfl) (by rw [HV.out]; rfl)
  have HV := Lib.hid (escQ_u s.data.toList s[1] g1.out a1 a2 a3 a4 a5 a6 a7 a8)
  have b1 : ((s[1].toNat : Int) == 34) = false := beqF _ 34 a1
  have b2 : ((s[1].toNat : Int) == 92) = false := beqF _ 92 a2
  have b3 : ((s[1].toNat : Int) == 47) = false := beqF _ 47 a3
  have b4 : ((s[1].toNat : Int) == 98) = false := beqF _ 98 a4
  have b5 : ((s[1].toNat : Int) == 102) = false := beqF _ 102 a5
  have b6 : ((s[1].toNat : Int) == 110) = false := beqF _ 110 a6
  have b7 : ((s[1].toNat : Int) == 114) = false := beqF _ 114 a7
  have b8 : ((s[1].toNat : Int) == 116) = false := beqF _ 116 a8
  clear a1 a2 a3 a4 a5 a6 a7 a8
  generalize unitsQ (unitQ s.data.toList) (unitQ (s.data.toList.drop 6)) = q at *
  go_enter Tryd.func98, Tryd.ntmps98
  go_wp2_with fail
  refine hc.mono ?_
  clear hc
  rintro e w' ⟨rfl, rfl⟩
  go_wp2
  go_ret2
  exact Two.mk (by rw [HV.out]) (by rw [HV.out])

/-- In quotes? -/
def quoted (l : List UInt8) : Bool := decide (2 ≤ l.length ∧ l[0]? = some 34 ∧ l[l.length - 1]? = some 34)
set_option maxRecDepth 100000 in
theorem isQuoted_any (s : ByteArray) (w : World) (hs : s.size ≤ 2000000) : Calls Tryd.prog 88 #[.string s] w fun e w' => e = .returned (.bool (quoted s.data.toList)) ∧ w = w' := by
  have HL := Lib.hid (size_list s)
  by_cases h2 : s.size < 2
  · have HV := Lib.hid (show quoted s.data.toList = false by unfold quoted; rw [decide_eq_false_iff_not, ← HL.out]; omega)
    go_enter Tryd.func88, Tryd.ntmps88
    go_wp2
    go_ret
    exact ⟨ret_bool (by rw [HV.out]), rfl⟩
  have k1 : 2 ≤ s.size := by omega
  clear h2
  have k0 : 0 < s.size := by omega
  have g0 := Lib.hid (getE? s 0 k0)
  by_cases a : s[0] = 34
  · obtain ⟨n, hn⟩ : ∃ n, s.size = n + 1 := ⟨s.size - 1, by omega⟩
    have kn : n < s.size := by omega
    have gn := Lib.hid (getE? s n kn)
    have HV0 := Lib.hid (show quoted s.data.toList = decide (s[n] = 34) by
      unfold quoted
      rw [← HL.out, hn, Nat.add_sub_cancel, gn.out, g0.out, a]
      rw [Bool.eq_iff_iff]
      simp
      omega)
    have b : ((s[0].toNat : Int) == 34) = true := by rw [a]; decide
    have hix : ((s.size : Nat) : Int) - 1 = (n : Nat) := by omega
    clear a
    by_cases c : s[n] = 34
    · have HV := Lib.hid (show quoted s.data.toList = true by rw [HV0.out, c]; rfl)
      have d : ((s[n].toNat : Int) == 34) = true := by rw [c]; decide
      clear c
      have Hn := Lib.hid hn
      clear hn
      go_enter Tryd.func88, Tryd.ntmps88
      go_wp2
      go_ret
      exact ⟨ret_bool (by rw [HV.out]), rfl⟩
    · have HV := Lib.hid (show quoted s.data.toList = false by rw [HV0.out, decide_eq_false_iff_not]; exact c)
      have d : ((s[n].toNat : Int) == 34) = false := beqF _ 34 c
      clear c
      have Hn := Lib.hid hn
      clear hn
      go_enter Tryd.func88, Tryd.ntmps88
      go_wp2
      go_ret
      exact ⟨ret_bool (by rw [HV.out]), rfl⟩
  · have HV := Lib.hid (show quoted s.data.toList = false by
      unfold quoted; rw [decide_eq_false_iff_not, g0.out]; rintro ⟨_, h, _⟩; exact a (by simpa using h))
    have b : ((s[0].toNat : Int) == 34) = false := beqF _ 34 a
    clear a
    go_enter Tryd.func88, Tryd.ntmps88
    go_wp2
    go_ret
    exact ⟨ret_bool (by rw [HV.out]), rfl⟩
end Go.Proofs.YtchgelfomnbpaaaDoor
namespace Go.Proofs.YtchgelfomnbpaaaDoor
open Go.RowKit
open Go.Lib

/-- The library's two tables, as they are laid. -/
def Tabs (w : World) : Prop := Lib.Utf8Tabs 0 1 w
theorem Tabs.below {w w' : World} (h : Tabs w) (hb : Below w.heap.size w w') : Tabs w' :=
  Utf8Tabs_below h hb
/-- The first code point of what stands in quotes and its width; -1: there is none. -/
def qpQ (l : List UInt8) : Int × Nat :=
  match l with
  | [] => (-1, 0)
  | c :: r => if c = 92 then escQ (c :: r) else if c.toNat < 32 ∨ c = 34 then (-1, 0) else (((decodeL (c :: r)).1 : Int), (decodeL (c :: r)).2)
theorem decodeL_zero (s : ByteArray) : Utf8.decode s 0 = decodeL s.data.toList := by
  have := decodeL_drop s 0
  simpa using this.symm
theorem decode_ascii (c : UInt8) (r : List UInt8) (h : c.toNat < 128) : decodeL (c :: r) = (c.toNat, 1) := by
  rw [decodeL_N]
  simp only [List.getD_cons_zero]
  simp [decodeN, h]
theorem unj_step (l : List UInt8) (hne : l ≠ []) (ht : IsTxt l) : (qpQ l = (-1, 0) ∧ unj l = none) ∨ (∃ (p : Int) (n : Nat), qpQ l = (p, n) ∧ isPt p = true ∧ 1 ≤ n ∧ n ≤ l.length ∧ unj l = (unj (l.drop n)).map (encodeRune p ++ ·) ∧ IsTxt (l.drop n)) := by
  match l, hne with
  | c :: r, _ =>
    by_cases h92 : c = 92
    · subst h92
      have e : qpQ (92 :: r) = escQ (92 :: r) := rfl
      rcases escQ_ok r with h | ⟨h1, h2, h3, _, h5⟩
      · exact .inl ⟨e.trans h, unj_none r (by rw [h]; decide)⟩
      · have h0 := ((isPt_iff _).1 h1).1
        exact .inr ⟨(escQ (92 :: r)).1, (escQ (92 :: r)).2, e, h1, by omega, h3, unj_esc r (by omega), isTxt_drop _ _ ht h5⟩
    · by_cases hb : c.toNat < 32 ∨ c = 34
      · exact .inl ⟨by simp only [qpQ, if_neg h92, if_pos hb], unj_bad c r hb⟩
      · by_cases ha : c.toNat < 128
        · refine .inr ⟨c.toNat, 1, ?_, isPt_ascii c ha, Nat.le_refl _, by simp, ?_, isTxt_drop 1 _ ht (fun d hd => ?_)⟩
          · simp only [qpQ, if_neg h92, if_neg hb, decode_ascii c r ha]
          · have := unj_pass r [c] (fun d hd => by rw [List.mem_singleton] at hd; subst hd; exact ⟨hb, h92⟩)
            rw [encodeRune_ascii _ (by omega) (by omega)]
            simpa using this
          · simp at hd; subst hd; exact ha
        · obtain ⟨z, hz, hz2, hd, hs, htx⟩ := isTxt_head c r ht (by omega)
          have hl := (encodeRune_length z).1
          have h0 := ((isPt_iff _).1 hz).1
          refine .inr ⟨z, (encodeRune z).length, ?_, hz, hl, ?_, ?_, htx⟩
          · simp only [qpQ, if_neg h92, if_neg hb, hd]
            congr 1
            omega
          · have := congrArg List.length hs
            rw [List.length_append] at this
            omega
          · have := unj_pass ((c :: r).drop (encodeRune z).length) (encodeRune z) (fun d hd => by
              have := encodeRune_high z hz hz2 d hd
              refine ⟨?_, ?_⟩
              · rintro (h | h)
                · omega
                · subst h; exact absurd this (by decide)
              · rintro rfl; exact absurd this (by decide))
            rw [← hs] at this
            exact this
/-- Two results, memory above alone touched. -/
def TwoB (p : Int) (n : Nat) (w : World) (e : Ending) (w' : World) : Prop := e = .returned (.tuple #[.int .i32 p, .int .i64 n]) ∧ Below w.heap.size w w'
theorem TwoB.mk {p q : Int} {n m : Nat} {w w' : World} (h : p = q) (g : n = m) (hb : Below w.heap.size w w') : TwoB q m w (.returned (.tuple #[.int .i32 p, .int .i64 n])) w' := by subst h; subst g; exact ⟨rfl, hb⟩
set_option maxRecDepth 100000 in
theorem quotedPoint_any (s : ByteArray) (w : World) (hs : s.size ≤ 2000000) (h0 : 0 < s.size) (hT : Tabs w) : Calls Tryd.prog 89 #[.string s] w (TwoB (p0 (qpQ s.data.toList)) (n0 (qpQ s.data.toList)) w) := by
  have hd := libDecode s w hT
  have HG := Lib.hid (show Lib.decodeGo s = decodeL s.data.toList by
    rw [← decodeL_zero]; unfold Lib.decodeGo; rw [if_neg (by omega)])
  rw [HG.out] at hd
  have HT := Lib.hid hT
  clear hT HG
  have hc := escaped_any s w hs
  have HL : Hid (s.data.toList = s[0] :: s.data.toList.drop 1) := by
    show _ = _
    have := List.drop_eq_getElem_cons (l := s.data.toList) (i := 0) (by simpa using h0)
    rw [List.drop_zero] at this
    exact this
  by_cases a : s[0] = 92
  · have HV := Lib.hid (show qpQ s.data.toList = escQ s.data.toList by rw [HL.out, a]; rfl)
    have b : ((s[0].toNat : Int) == 92) = true := by rw [a]; decide
    clear a hd
    generalize escQ s.data.toList = q at *
    go_enter Tryd.func89, Tryd.ntmps89
    go_wp2_with fail
    refine hc.mono ?_
    clear hc
    rintro e w' ⟨rfl, rfl⟩
    go_wp2
    go_ret2
    exact TwoB.mk (by rw [HV.out]) (by rw [HV.out]) (Below.refl _ _)
  have b : ((s[0].toNat : Int) == 92) = false := beqF _ 92 a
  by_cases c : s[0] = 34
  · have HV := Lib.hid (show qpQ s.data.toList = (-1, 0) by rw [HL.out]; simp only [qpQ]; rw [if_neg a, if_pos (.inr c)])
    have d : ((s[0].toNat : Int) == 34) = true := by rw [c]; decide
    clear a c hd hc
    go_enter Tryd.func89, Tryd.ntmps89
    go_wp2
    go_ret2
    exact TwoB.mk (by rw [HV.out]; rfl) (by rw [HV.out]; rfl) (Below.refl _ _)
  have d : ((s[0].toNat : Int) == 34) = false := beqF _ 34 c
  by_cases k : s[0].toNat < 32
  · have HV := Lib.hid (show qpQ s.data.toList = (-1, 0) by rw [HL.out]; simp only [qpQ]; rw [if_neg a, if_pos (.inl k)])
    clear a c hd hc
    go_enter Tryd.func89, Tryd.ntmps89
    go_wp2
    go_ret2
    exact TwoB.mk (by rw [HV.out]; rfl) (by rw [HV.out]; rfl) (Below.refl _ _)
  · have HV := Lib.hid (show qpQ s.data.toList = (((decodeL s.data.toList).1 : Int), (decodeL s.data.toList).2) by
      rw [HL.out]; simp only [qpQ]; rw [if_neg a, if_neg (by rintro (h | h); exact k h; exact c h)])
    have k2 : 32 ≤ s[0].toNat := by omega
    clear a c hc k
    generalize decodeL s.data.toList = q at *
    go_enter Tryd.func89, Tryd.ntmps89
    go_wp2_with fail
    refine hd.mono ?_
    clear hd
    rintro e w' ⟨rfl, hb⟩
    go_wp2
    go_ret2
    refine TwoB.mk ?_ ?_ hb
    · rw [HV.out]; unfold p0; rw [if_neg]; simp only; omega
    · rw [HV.out]; unfold n0; rw [if_neg]; simp only; omega
end Go.Proofs.YtchgelfomnbpaaaDoor
namespace Go.Proofs.YtchgelfomnbpaaaDoor
open Go.RowKit
open Go.Lib

def strLen (v : Value) : Nat := match v with | .string r => r.size | _ => 0
/-- A builder is kept through what a callee makes. -/
theorem bf_below {T e : TypeId} {B b : Nat} {bs : List Value} {w w' : World} (h : Lib.IsBuilderF T e B b bs w) (hb : Below w.heap.size w w') : Lib.IsBuilderF T e B b bs w' := by
  have one : ∀ {p : Value}, Lib.BuilderAtF T e B b p bs w → Lib.BuilderAtF T e B b p bs w' := by
    intro p h
    have hlt := h.lt
    obtain ⟨h1, v, hv, hown, h2⟩ := h
    refine ⟨h1, v, ?_, ?_, h2⟩
    · rw [hb.block b hlt]; exact hv
    · refine hown.kept (row := none) ⟨hb.os, hb.tape, hb.output, hb.size, fun k hk _ => hb.block k hk⟩ (Classical.em _)
  rcases h with h | h
  · exact .inl (one h)
  · exact .inr (one h)
theorem byteCells_rune (a : List UInt8) (p : Int) : byteCells a ++ runeCells p = byteCells (a ++ encodeRune p) := by
  rw [byteCells_append, ← byteCells_encodeRune]
theorem take_extract (s : ByteArray) (k : Nat) : (s.extract 0 k).data.toList = s.data.toList.take k := by
  simp [ByteArray.data_extract]
theorem index_at {s : ByteArray} {c : UInt8} {i : Nat} (h : Lib.indexByte s.data.toList c = i) : i < s.size ∧ s.data.toList = s.data.toList.take i ++ c :: s.data.toList.drop (i + 1) ∧ c ∉ s.data.toList.take i := by
  obtain ⟨h1, h2⟩ := Lib.indexByte_some h
  have hl : i < s.data.toList.length := (List.getElem?_eq_some_iff.1 h1).1
  have hg : s.data.toList[i] = c := (List.getElem?_eq_some_iff.1 h1).2
  refine ⟨by rw [size_list]; exact hl, ?_, ?_⟩
  · have := List.drop_eq_getElem_cons hl
    rw [hg] at this
    rw [← this, List.take_append_drop]
  · intro hm
    obtain ⟨k, hk, he⟩ := List.getElem_of_mem hm
    rw [List.length_take] at hk
    rw [List.getElem_take] at he
    exact h2 k (by omega) (by rw [List.getElem?_eq_getElem (by omega), he])
theorem index_not {l : List UInt8} {c : UInt8} (h : Lib.indexByte l c = -1) : c ∉ l := by
  intro hm
  obtain ⟨k, hk, he⟩ := List.getElem_of_mem hm
  exact Lib.indexByte_none h k (by rw [List.getElem?_eq_getElem hk, he])
theorem index_or (l : List UInt8) (c : UInt8) : Lib.indexByte l c = -1 ∨ ∃ i : Nat, Lib.indexByte l c = i := by
  have := Lib.indexByte_ge l c
  by_cases h : Lib.indexByte l c = -1
  · exact .inl h
  · exact .inr ⟨(Lib.indexByte l c).toNat, by omega⟩
/-- What a cut leaves. -/
def CutOut (a b : ByteArray) (ok : Bool) (w : World) (e : Ending) (w' : World) : Prop := e = .returned (.tuple #[.string a, .string b, .bool ok]) ∧ Below w.heap.size w w'
/-- Behind an x or an X. -/
def isX (l : List UInt8) : Bool := decide (l.head? = some 120 ∨ l.head? = some 88)
theorem head_at (s : ByteArray) (h : 0 < s.size) : s.data.toList.head? = some s[0] := by
  rw [List.head?_eq_getElem?]; exact getE? s 0 h
def CutXOut (s : ByteArray) (w : World) (e : Ending) (w' : World) : Prop := e = .returned (.tuple #[.string (if isX s.data.toList = true then s.extract 1 s.size else ⟨#[]⟩), .bool (isX s.data.toList)]) ∧ w = w'
theorem CutXOut.yes {s : ByteArray} {w : World} (h : isX s.data.toList = true) : CutXOut s w (.returned (.tuple #[.string (s.extract 1 s.size), .bool true])) w := by
  unfold CutXOut; rw [h]; exact ⟨rfl, rfl⟩
theorem CutXOut.no {s : ByteArray} {w : World} (h : isX s.data.toList = false) : CutXOut s w (.returned (.tuple #[.string ⟨#[]⟩, .bool false])) w := by
  unfold CutXOut; rw [h]; exact ⟨rfl, rfl⟩
/-- The number that a reference's name tells. -/
def numI (l : List UInt8) : Int := if l.head? = some 35 then sharp (l.drop 1) else -1
theorem pre35 (l : List UInt8) : ([35] : List UInt8).isPrefixOf l = decide (l.head? = some 35) := by
  cases l with
  | nil => rfl
  | cons c r =>
    rw [Bool.eq_iff_iff]
    simp [List.isPrefixOf]
    exact eq_comm
end Go.Proofs.YtchgelfomnbpaaaDoor
namespace Go.Proofs.YtchgelfomnbpaaaDoor
open Go.RowKit
open Go.Lib

/-- What Unjson answers. -/
def unjson (l : List UInt8) : Option (List UInt8) := if quoted l = true ∧ validD l = true then unj ((l.drop 1).take (l.length - 2)) else none
def UnjOut (o : Option (List UInt8)) (w : World) (e : Ending) (w' : World) : Prop :=
  e = .returned (.tuple #[.string ⟨(o.getD []).toArray⟩, .int .i64 (if o.isSome = true then 0 else 20)]) ∧ Below w.heap.size w w'
theorem UnjOut.bad {o : Option (List UInt8)} {w w' : World} (h : o = none) (hb : Below w.heap.size w w') : UnjOut o w (.returned (.tuple #[.string ⟨#[]⟩, .int .i64 20])) w' := by
  subst h; exact ⟨rfl, hb⟩
theorem UnjOut.good {o : Option (List UInt8)} {l : List UInt8} {w w' : World} (h : o = some l) (hb : Below w.heap.size w w') : UnjOut o w (.returned (.tuple #[.string ⟨l.toArray⟩, .int .i64 0])) w' := by
  subst h; exact ⟨rfl, hb⟩
theorem quoted_inner (l : List UInt8) (hq : quoted l = true) (hv : validD l = true) : IsTxt ((l.drop 1).take (l.length - 2)) := by
  have hq : 2 ≤ l.length ∧ l[0]? = some 34 ∧ l[l.length - 1]? = some 34 := by simpa [quoted] using hq
  obtain ⟨h2, h0, h1⟩ := hq
  have ht := isTxt_of_valid l hv
  match l, h0 with
  | c :: r, h0 =>
    simp at h0
    subst h0
    have hr := isTxt_drop 1 _ ht (fun d hd => by simp at hd; subst hd; decide)
    simp only [List.drop_succ_cons, List.drop_zero, List.length_cons] at *
    have hlen : r.length - 1 + 1 = r.length := by omega
    have e : r = r.take (r.length - 1) ++ [34] := by
      have h := List.take_succ_eq_append_getElem (l := r) (i := r.length - 1) (by omega)
      rw [hlen, List.take_length] at h
      have h1' : r[r.length - 1]? = some 34 := by
        have : (34 :: r)[r.length + 1 - 1]? = some 34 := h1
        rw [show r.length + 1 - 1 = (r.length - 1) + 1 by omega, List.getElem?_cons_succ] at this
        exact this
      have h2' : r[r.length - 1]'(by omega) = 34 := by
        rw [List.getElem?_eq_getElem (by omega)] at h1'
        exact Option.some.inj h1'
      rw [h2'] at h
      exact h
    rw [show r.length + 1 - 2 = r.length - 1 by omega]
    exact isTxt_front _ 34 (by decide) (by rw [← e]; exact hr)
theorem inner_extract (s : ByteArray) : (s.extract 1 (s.size - 1)).data.toList = (s.data.toList.drop 1).take (s.data.toList.length - 2) := by
  rw [← size_list]
  simp only [ByteArray.data_extract, Array.toList_extract, List.extract_eq_take_drop]
  congr 1
theorem map_app (o : Option (List UInt8)) (a b : List UInt8) : (o.map (b ++ ·)).map (a ++ ·) = o.map ((a ++ b) ++ ·) := by
  cases o <;> simp
set_option maxRecDepth 100000 in
set_option maxHeartbeats 2000000 in
theorem unjson_any (s : ByteArray) (w : World) (hs : s.size ≤ 2000000) (hT : Tabs w) : Calls Tryd.prog 70 #[.string s] w (UnjOut (unjson s.data.toList) w) := by
  have hq := isQuoted_any s w hs
  have hv := uvalid_any s w hs hT
  have HT := Lib.hid hT
  clear hT
  cases cq : quoted s.data.toList with
  | false =>
    have HV := Lib.hid (show unjson s.data.toList = none by unfold unjson; rw [cq, if_neg (by simp)])
    rw [cq] at hq
    clear cq hv
    go_enter Tryd.func70, Tryd.ntmps70
    go_wp2_with fail
    refine hq.mono ?_
    clear hq
    rintro e w' ⟨rfl, rfl⟩
    go_wp2
    go_ret2
    exact UnjOut.bad HV.out (Below.refl _ _)
  | true =>
    rw [cq] at hq
    cases cv : validD s.data.toList with
    | false =>
      have HV := Lib.hid (show unjson s.data.toList = none by unfold unjson; rw [cv, if_neg (by simp)])
      rw [cv] at hv
      clear cv cq
      go_enter Tryd.func70, Tryd.ntmps70
      go_wp2_with fail
      refine hq.mono ?_
      clear hq
      rintro e w' ⟨rfl, rfl⟩
      go_wp2_with fail
      refine hv.mono ?_
      clear hv
      rintro e w1 ⟨rfl, b1⟩
      go_wp2
      go_ret2
      exact UnjOut.bad HV.out b1
    | true =>
      have HV := Lib.hid (show unjson s.data.toList = unj (s.extract 1 (s.size - 1)).data.toList by unfold unjson; rw [cq, cv, if_pos ⟨rfl, rfl⟩, inner_extract])
      have HX := Lib.hid (show IsTxt (s.extract 1 (s.size - 1)).data.toList by rw [inner_extract]; exact quoted_inner _ cq cv)
      rw [cv] at hv
      have h2 : 2 ≤ s.size := by
        have h := cq
        unfold quoted at h
        rw [decide_eq_true_eq, ← size_list] at h
        exact h.1
      have hts : (s.extract 1 (s.size - 1)).size ≤ 2000000 := by simp; omega
      obtain ⟨n, hn⟩ : ∃ n, s.size = n + 1 := ⟨s.size - 1, by omega⟩
      have hix : ((s.size : Nat) : Int) - 1 = (n : Nat) := by omega
      have hn1 : 1 ≤ n := by omega
      have hn2 : n ≤ s.size := by omega
      have hnn : s.size - 1 = n := by omega
      rw [hnn] at HV HX hts
      have Hn := Lib.hid hn
      clear cv cq hn hnn
      have hsl : ∀ W, (Instr.slice 9 (.string s) (some (.int .i64 1)) (some (.int .i64 (n : Int))) none).run Tryd.prog W = .ok (.string (s.extract 1 n)) W := fun W =>
        run_slice_string W 9 s .i64 .i64 1 n Tryd.underlying9 (by omega) (by omega) (by omega)
      generalize s.extract 1 n = t at *
      go_enter Tryd.func70, Tryd.ntmps70
      go_wp2_with fail
      refine hq.mono ?_
      clear hq
      rintro e w' ⟨rfl, rfl⟩
      go_wp2_with fail
      refine hv.mono ?_
      clear hv
      rintro e w1 ⟨rfl, b1⟩
      have HT1 := Lib.hid (HT.out.below b1)
      go_wp2
      go_loopw [5] (fun v wr => ∃ (r : ByteArray) (acc : List UInt8), v = .string r ∧ r.size ≤ 2000000 ∧ Lib.IsBuilderF 61 5 w1.heap.size w1.heap.size (byteCells acc) wr ∧ Below w1.heap.size w1 wr ∧ w1.heap.size < wr.heap.size ∧ acc.length + 4 * r.size ≤ 8000000 ∧ Hid (IsTxt r.data.toList) ∧ Hid ((unj r.data.toList).map (acc ++ ·) = unj t.data.toList)) (fun v _ => strLen v)
      case atStart => exact ⟨t, [], rfl, hts, Lib.IsBuilderF.of (Lib.fresh_isBuilder 61 5 w1), (Below.refl _ w1).alloc (Nat.le_refl _) _, by simp, by simp; omega, HX, by simp [Hid]⟩
      case round =>
        obtain ⟨r, acc, rfl, hr, hI, hbw, hbsz, hal, htx, hac⟩ := hrel
        by_cases hz : r.size = 0
        · obtain rfl := empty_of r hz
          clear hz
          go_wp2_with fail
          refine (sbString w1.heap.size w1.heap.size acc _ hI (by omega)).mono ?_
          rintro e W1 ⟨rfl, _, b2, _⟩
          go_wp2
          go_ret2
          refine UnjOut.good ?_ (b1.trans ((hbw.trans b2).mono b1.size))
          rw [HV.out, ← hac.out]
          show (unj []).map _ = _
          simp [unj_nil]
        · have hp : 0 < r.size := by omega
          clear hz
          have hne := list_ne r hp
          have hne2 : (r.toList == ([] : List UInt8)) = false := by simpa using hne
          have hne3 : (r.toList != ([] : List UInt8)) = true := by simpa using hne
          have hqp := quotedPoint_any r wr hr hp (HT1.out.below hbw)
          have HS := Lib.hid (unj_step r.data.toList (by rw [← Lib.toList_data]; exact hne) htx.out)
          rcases HS.out with ⟨q1, q2⟩ | ⟨p, m, q1, q2, q3, q4, q5, q6⟩
          · have HN := Lib.hid (show unjson s.data.toList = none by rw [HV.out, ← hac.out, q2]; rfl)
            rw [q1, show p0 (-1, 0) = 0 from rfl, show n0 (-1, 0) = 0 from rfl] at hqp
            clear q1 q2 HS
            go_wp2_with fail
            refine hqp.mono ?_
            clear hqp
            rintro e w2 ⟨rfl, b2⟩
            go_wp2
            go_ret2
            exact UnjOut.bad HN.out (b1.trans ((hbw.trans (b2.mono (by omega))).mono b1.size))
          · obtain ⟨g0, g1, g2⟩ := (isPt_iff p).1 q2
            rw [q1, show p0 (p, m) = p from if_neg (by show ¬ p < 0; omega), show n0 (p, m) = m from if_neg (by show ¬ p < 0; omega)] at hqp
            rw [← size_list] at q4
            have H2 := Lib.hid (show (unj (r.extract m r.size).data.toList).map ((acc ++ encodeRune p) ++ ·) = unj t.data.toList by rw [drop_extract, ← map_app, ← q5, hac.out])
            have H3 := Lib.hid (show IsTxt (r.extract m r.size).data.toList by rw [drop_extract]; exact q6)
            have hsz : (r.extract m r.size).size = r.size - m := by simp
            have HZ := Lib.hid hsz
            have hel := (encodeRune_length p).2
            clear q1 q2 q5 q6 HS g2 hsz
            go_wp2_with fail
            refine hqp.mono ?_
            clear hqp
            rintro e w2 ⟨rfl, b2⟩
            have hm0 : ((m : Int) == 0) = false := by rw [beq_eq_false_iff_ne]; omega
            have hI2 := bf_below hI b2
            have hbz := b2.size
            have hr2 := sbRune w1.heap.size w1.heap.size _ p (by omega) (by omega) w2 hI2 (by rw [Lib.byteCells_length]; omega) (by omega)
            rw [byteCells_rune] at hr2
            go_wp2_with fail
            refine hr2.mono ?_
            clear hr2
            rintro e w3 ⟨rfl, h1, b3, k3⟩
            have hbz3 := b3.size
            go_wp2
            go_roundw
            case rel => exact ⟨r.extract m r.size, acc ++ encodeRune p, rfl, by rw [HZ.out]; omega, Or.inr h1, (hbw.trans (b2.mono (by omega))).trans b3, by omega, by rw [List.length_append, HZ.out]; omega, H3, H2⟩
            case measure => show (r.extract m r.size).size < r.size; rw [HZ.out]; omega
end Go.Proofs.YtchgelfomnbpaaaDoor
