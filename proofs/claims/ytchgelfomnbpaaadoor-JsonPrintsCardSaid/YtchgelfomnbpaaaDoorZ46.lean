/-
  Of the proofs of layer 7 (values of JSON): the parts FA FB FC. No conditions.
-/
import Derived.Test.YtchgelfomnbpaaaDoorZ36
namespace Go.Proofs.YtchgelfomnbpaaaDoor
open Go.RowKit
open Go.Lib

def digB (base : Int) (c : UInt8) : Int := if digN c < base then digN c else -1
theorem digB_yes {base : Int} {c : UInt8} (h : isD base c = true) : digB base c = digN c := by
  simp [isD] at h; unfold digB; rw [if_pos h.2]
theorem digB_no {base : Int} {c : UInt8} (h : isD base c = false) : digB base c = -1 := by
  unfold digB
  split
  · rename_i h2
    have hb := digN_bd c
    have : ¬ 0 ≤ digN c := fun h3 => by
      have : isD base c = true := by simp [isD, h2, h3]
      rw [this] at h; cases h
    omega
  · rfl
set_option maxRecDepth 100000 in
theorem rdigit_any (c : UInt8) (base : Int) (w : World) (hb0 : 0 ≤ base) : Calls Tryd.prog 64 #[.int .u8 c.toNat, .int .i64 base] w fun e w' => e = .returned (.int .i64 (digB base c)) ∧ w = w' := by
  have hc : c.toNat < 256 := UInt8.toNat_lt c
  have fin : ∀ (x y : Int), digN c = x → (x < base ∧ y = x ∨ base ≤ x ∧ y = -1) → y = digB base c := by
    intro x y h1 h2
    unfold digB
    rw [h1]
    rcases h2 with ⟨h2, h3⟩ | ⟨h2, h3⟩
    · rw [if_pos h2, h3]
    · rw [if_neg (by omega), h3]
  have FIN := Lib.hid fin
  clear fin
  by_cases a : 48 ≤ c.toNat ∧ c.toNat ≤ 57
  · have HD := Lib.hid (show digN c = (c.toNat : Int) - 48 by unfold digN; rw [if_pos a])
    obtain ⟨a1, a2⟩ := a
    by_cases hb : base ≤ (c.toNat : Int) - 48
    all_goals
      go_enter Tryd.func64, Tryd.ntmps64
      go_wp2
      go_ret
      exact ⟨ret_int (FIN.out _ _ HD.out (by omega)), rfl⟩
  by_cases b : 97 ≤ c.toNat ∧ c.toNat ≤ 102
  · have HD := Lib.hid (show digN c = (c.toNat : Int) - 97 + 10 by unfold digN; rw [if_neg a, if_pos b]; omega)
    obtain ⟨b1, b2⟩ := b
    by_cases hb : base ≤ (c.toNat : Int) - 97 + 10
    all_goals
      go_enter Tryd.func64, Tryd.ntmps64
      go_wp2
      go_ret
      exact ⟨ret_int (FIN.out _ _ HD.out (by omega)), rfl⟩
  by_cases d : 65 ≤ c.toNat ∧ c.toNat ≤ 70
  · have HD := Lib.hid (show digN c = (c.toNat : Int) - 65 + 10 by unfold digN; rw [if_neg a, if_neg b, if_pos d]; omega)
    obtain ⟨d1, d2⟩ := d
    by_cases hb : base ≤ (c.toNat : Int) - 65 + 10
    all_goals
      go_enter Tryd.func64, Tryd.ntmps64
      go_wp2
      go_ret
      exact ⟨ret_int (FIN.out _ _ HD.out (by omega)), rfl⟩
  · have HD := Lib.hid (show digN c = -1 by unfold digN; rw [if_neg a, if_neg b, if_neg d])
    go_enter Tryd.func64, Tryd.ntmps64
    go_wp2
    all_goals first | (exfalso; omega) | (go_ret; exact ⟨ret_int (FIN.out _ _ HD.out (by omega)), rfl⟩)

theorem pre_short (p l : List UInt8) (h : l.length < p.length) : p.isPrefixOf l = false := by
  rw [Bool.eq_false_iff]
  intro hh
  have := (List.isPrefixOf_iff_prefix.1 hh).length_le
  omega
theorem pre_take (p l : List UInt8) : p.isPrefixOf l = (l.take p.length == p) := by
  rw [Bool.eq_iff_iff, List.isPrefixOf_iff_prefix, List.prefix_iff_eq_take, beq_iff_eq]
  exact eq_comm
set_option maxRecDepth 100000 in
theorem starts_any (s p : ByteArray) (w : World) : Calls Tryd.prog 93 #[.string s, .string p] w fun e w' => e = .returned (.bool (p.data.toList.isPrefixOf s.data.toList)) ∧ w = w' := by
  have HL := Lib.hid (size_list s)
  have HP := Lib.hid (size_list p)
  by_cases h : s.size < p.size
  · have HV := Lib.hid (pre_short p.data.toList s.data.toList (by rw [← HL.out, ← HP.out]; exact h))
    have hd : decide (p.size ≤ s.size) = false := by simpa using h
    go_enter Tryd.func93, Tryd.ntmps93
    go_wp2
    all_goals first | (exfalso; omega) | (go_ret; exact ⟨ret_bool (by rw [HV.out]), rfl⟩)
  · have hle : p.size ≤ s.size := by omega
    have hd : decide (p.size ≤ s.size) = true := by simpa using hle
    have HV := Lib.hid (show p.data.toList.isPrefixOf s.data.toList = ((s.extract 0 p.size).toList == p.toList) by
      rw [pre_take, Lib.toList_data, Lib.toList_data, take_extract, HP.out])
    clear h
    generalize p.data.toList.isPrefixOf s.data.toList = q at *
    go_enter Tryd.func93, Tryd.ntmps93
    go_wp2
    all_goals first | (exfalso; omega) | (go_ret; exact ⟨ret_bool (by rw [HV.out]), rfl⟩)

theorem digs_stop (base : Int) (m : Nat) (l : List UInt8) (k : Nat) (hk : k ≤ l.length) (hm : k ≤ m) (hall : (l.take k).all (isD base) = true) (hend : k = l.length ∨ k = m ∨ ∃ c, l[k]? = some c ∧ isD base c = false) : digs base m l = l.take k := by
  unfold digs
  have e : l.take m = l.take k ++ (l.take m).drop k := by
    have h := (List.take_append_drop k (l.take m)).symm
    rw [List.take_take, Nat.min_eq_left hm] at h
    exact h
  rw [e, List.takeWhile_append_of_pos (fun c hc => List.all_eq_true.1 hall c hc)]
  have : ((l.take m).drop k).takeWhile (isD base) = [] := by
    rcases hend with h | h | ⟨c, h1, h2⟩
    · rw [List.drop_of_length_le (by rw [List.length_take]; omega)]; rfl
    · rw [List.drop_of_length_le (by rw [List.length_take]; omega)]; rfl
    · by_cases hkm : k = m
      · rw [List.drop_of_length_le (by rw [List.length_take]; omega)]; rfl
      · have hg : (l.take m)[k]? = some c := by rw [List.getElem?_take_of_lt (by omega)]; exact h1
        obtain ⟨hlt, hgv⟩ := List.getElem?_eq_some_iff.1 hg
        rw [List.drop_eq_getElem_cons hlt, hgv, List.takeWhile_cons, h2]
        rfl
  rw [this, List.append_nil]
/-- What Number answers. -/
def NumOut (base : Int) (m : Nat) (l : List UInt8) (w : World) (e : Ending) (w' : World) : Prop := e = .returned (.tuple #[.int .i64 (valD base (digs base m l)), .int .i64 (digs base m l).length]) ∧ w = w'
theorem NumOut.mk {base : Int} {m k : Nat} {l : List UInt8} {w : World} (h : digs base m l = l.take k) (hk : k ≤ l.length) : NumOut base m l w (.returned (.tuple #[.int .i64 (valD base (l.take k)), .int .i64 k])) w := by
  unfold NumOut; rw [h, List.length_take, Nat.min_eq_left hk]; exact ⟨rfl, rfl⟩
set_option maxRecDepth 100000 in
set_option maxHeartbeats 1000000 in
theorem rnumber16_any (s : ByteArray) (m : Nat) (w : World) (hs : s.size ≤ 2000000) (hm : m ≤ 7) : Calls Tryd.prog 47 #[.string s, .int .i64 16, .int .i64 m] w (NumOut 16 m s.data.toList w) := by
  have HL := Lib.hid (size_list s)
  go_enter Tryd.func47, Tryd.ntmps47
  go_wp2
  go_loop [8, 9] (fun n i => ∃ k : Nat, k ≤ s.size ∧ k ≤ m ∧ i = .int .i64 k ∧ n = .int .i64 (valD 16 (s.data.toList.take k)) ∧ Hid ((s.data.toList.take k).all (isD 16) = true)) (fun _ i => s.size - (RowKit.intOf i).toNat)
  case atStart => exact ⟨0, Nat.zero_le _, Nat.zero_le _, rfl, rfl, by simp [Hid]⟩
  case round =>
    obtain ⟨k, hk, hkm, rfl, rfl, hall⟩ := hrel
    have hbd := valD_bd 16 (by omega) (by omega) (s.data.toList.take k) (by rw [List.length_take]; omega) hall.out
    by_cases hlt : k < s.size
    · have dlt : decide (k < s.size) = true := by simpa using hlt
      by_cases hlm : k < m
      · have dlm : decide (k < m) = true := by simpa using hlm
        have HT := Lib.hid (take_snoc s k hlt)
        have HS := Lib.hid (valD_snoc 16 (s.data.toList.take k) s[k])
        have HG := Lib.hid (getE? s k hlt)
        have hdb := digN_bd s[k]
        have hdg := rdigit_any s[k] 16 w (by omega)
        cases hd : isD 16 s[k] with
        | true =>
          rw [digB_yes hd] at hdg
          have hd0 : 0 ≤ digN s[k] := by simp [isD] at hd; exact hd.1
          have HD := Lib.hid hd
          clear hd
          generalize valD 16 (s.data.toList.take k) = v at *
          generalize digN s[k] = q at *
          have hcm := Lib.hid (Int.mul_comm 16 v)
          go_wp2_with fail
          refine hdg.mono ?_
          rintro e w' ⟨rfl, rfl⟩
          go_wp2_with fail
          refine hdg.mono ?_
          clear hdg
          rintro e w' ⟨rfl, rfl⟩
          go_wp2
          go_round
          case rel => exact ⟨k + 1, by omega, by omega, by go_num, by rw [HT.out, HS.out, ← hcm.out], by show _ = true; rw [HT.out, List.all_append, hall.out]; simp [HD.out]⟩
          case measure => simp [RowKit.intOf]; omega
        | false =>
          rw [digB_no hd] at hdg
          have HV := Lib.hid (digs_stop 16 m s.data.toList k (by rw [← HL.out]; omega) hkm hall.out (.inr (.inr ⟨s[k], HG.out, hd⟩)))
          clear hd
          go_wp2_with fail
          refine hdg.mono ?_
          clear hdg
          rintro e w' ⟨rfl, rfl⟩
          go_wp2
          go_ret2
          exact NumOut.mk HV.out (by rw [← HL.out]; omega)
      · have dlm : decide (k < m) = false := by simpa using hlm
        have HV := Lib.hid (digs_stop 16 m s.data.toList k (by rw [← HL.out]; omega) hkm hall.out (.inr (.inl (by omega))))
        go_wp2
        all_goals first | (exfalso; omega) | (go_ret2; exact NumOut.mk HV.out (by rw [← HL.out]; omega))
    · have dlt : decide (k < s.size) = false := by simpa using hlt
      have HV := Lib.hid (digs_stop 16 m s.data.toList k (by rw [← HL.out]; omega) hkm hall.out (.inl (by rw [← HL.out]; omega)))
      go_wp2
      all_goals first | (exfalso; omega) | (go_ret2; exact NumOut.mk HV.out (by rw [← HL.out]; omega))
set_option maxRecDepth 100000 in
set_option maxHeartbeats 1000000 in
theorem rnumber10_any (s : ByteArray) (m : Nat) (w : World) (hs : s.size ≤ 2000000) (hm : m ≤ 7) : Calls Tryd.prog 47 #[.string s, .int .i64 10, .int .i64 m] w (NumOut 10 m s.data.toList w) := by
  have HL := Lib.hid (size_list s)
  go_enter Tryd.func47, Tryd.ntmps47
  go_wp2
  go_loop [8, 9] (fun n i => ∃ k : Nat, k ≤ s.size ∧ k ≤ m ∧ i = .int .i64 k ∧ n = .int .i64 (valD 10 (s.data.toList.take k)) ∧ Hid ((s.data.toList.take k).all (isD 10) = true)) (fun _ i => s.size - (RowKit.intOf i).toNat)
  case atStart => exact ⟨0, Nat.zero_le _, Nat.zero_le _, rfl, rfl, by simp [Hid]⟩
  case round =>
    obtain ⟨k, hk, hkm, rfl, rfl, hall⟩ := hrel
    have hbd := valD_bd 10 (by omega) (by omega) (s.data.toList.take k) (by rw [List.length_take]; omega) hall.out
    by_cases hlt : k < s.size
    · have dlt : decide (k < s.size) = true := by simpa using hlt
      by_cases hlm : k < m
      · have dlm : decide (k < m) = true := by simpa using hlm
        have HT := Lib.hid (take_snoc s k hlt)
        have HS := Lib.hid (valD_snoc 10 (s.data.toList.take k) s[k])
        have HG := Lib.hid (getE? s k hlt)
        have hdb := digN_bd s[k]
        have hdg := rdigit_any s[k] 10 w (by omega)
        cases hd : isD 10 s[k] with
        | true =>
          rw [digB_yes hd] at hdg
          have hd0 : 0 ≤ digN s[k] := by simp [isD] at hd; exact hd.1
          have HD := Lib.hid hd
          clear hd
          generalize valD 10 (s.data.toList.take k) = v at *
          generalize digN s[k] = q at *
          have hcm := Lib.hid (Int.mul_comm 10 v)
          go_wp2_with fail
          refine hdg.mono ?_
          rintro e w' ⟨rfl, rfl⟩
          go_wp2_with fail
          refine hdg.mono ?_
          clear hdg
          rintro e w' ⟨rfl, rfl⟩
          go_wp2
          go_round
          case rel => exact ⟨k + 1, by omega, by omega, by go_num, by rw [HT.out, HS.out, ← hcm.out], by show _ = true; rw [HT.out, List.all_append, hall.out]; simp [HD.out]⟩
          case measure => simp [RowKit.intOf]; omega
        | false =>
          rw [digB_no hd] at hdg
          have HV := Lib.hid (digs_stop 10 m s.data.toList k (by rw [← HL.out]; omega) hkm hall.out (.inr (.inr ⟨s[k], HG.out, hd⟩)))
          clear hd
          go_wp2_with fail
          refine hdg.mono ?_
          clear hdg
          rintro e w' ⟨rfl, rfl⟩
          go_wp2
          go_ret2
          exact NumOut.mk HV.out (by rw [← HL.out]; omega)
      · have dlm : decide (k < m) = false := by simpa using hlm
        have HV := Lib.hid (digs_stop 10 m s.data.toList k (by rw [← HL.out]; omega) hkm hall.out (.inr (.inl (by omega))))
        go_wp2
        all_goals first | (exfalso; omega) | (go_ret2; exact NumOut.mk HV.out (by rw [← HL.out]; omega))
    · have dlt : decide (k < s.size) = false := by simpa using hlt
      have HV := Lib.hid (digs_stop 10 m s.data.toList k (by rw [← HL.out]; omega) hkm hall.out (.inl (by rw [← HL.out]; omega)))
      go_wp2
      all_goals first | (exfalso; omega) | (go_ret2; exact NumOut.mk HV.out (by rw [← HL.out]; omega))
end Go.Proofs.YtchgelfomnbpaaaDoor
namespace Go.Proofs.YtchgelfomnbpaaaDoor
open Go.RowKit
open Go.Lib

theorem cat_list (a b : ByteArray) : (a ++ b).data.toList = a.data.toList ++ b.data.toList := by simp
theorem raws_enc (l : List Int) (h : AllPt l) : raws (enc l) = l := by
  have hv := raws_valid _ (enc l) (Nat.le_refl _)
  rw [valid_enc l h] at hv
  have hm := map_fix_raws (enc l)
  rw [pts_enc' l h] at hm
  have : ∀ zs : List Int, zs.all (fun p => decide (0 ≤ p)) = true → zs = zs.map fix := by
    intro zs
    induction zs with
    | nil => intro _; rfl
    | cons z zs ih =>
      intro hz
      rw [List.all_cons, Bool.and_eq_true] at hz
      have h0 : 0 ≤ z := by simpa using hz.1
      rw [List.map_cons, ← ih hz.2]
      congr 1
      unfold fix; rw [if_neg (by omega)]
  exact (this _ hv.symm).trans hm
theorem enc_snoc (f : Int → List Int) (l : List Int) (z : Int) : enc ((l ++ [z]).flatMap f) = enc (l.flatMap f) ++ enc (f z) := by
  rw [List.flatMap_append, enc_append]; simp
/-- A text that is built. -/
def StrIs (o : ByteArray) (l : List UInt8) : Prop := o.data.toList = l
theorem StrIs.ret {o : ByteArray} {l : List UInt8} (h : StrIs o l) : Ending.returned (.string o) = .returned (.string ⟨l.toArray⟩) := by
  unfold StrIs at h; subst h; rfl
theorem StrIs.add {o p : ByteArray} {l m n : List UInt8} (h : StrIs o l) (hp : p.data.toList = m) (hn : n = l ++ m) : StrIs (o ++ p) n := by
  unfold StrIs at *
  rw [cat_list, h, hp, hn]
end Go.Proofs.YtchgelfomnbpaaaDoor
namespace Go.Proofs.YtchgelfomnbpaaaDoor
open Go.RowKit
open Go.Lib

theorem one_extract (s : ByteArray) (k : Nat) (h : k < s.size) : (s.extract k (k + 1)).data.toList = [s[k]] := by
  simp only [ByteArray.data_extract, Array.toList_extract, List.extract_eq_take_drop]
  rw [List.drop_eq_getElem_cons (by simpa using h), Nat.add_sub_cancel_left]
  rfl
theorem slice_one (s : ByteArray) (k : Nat) (q : IntKind) (x y : Int) (h : k < s.size) (hx0 : x = k) (hy : y = (k : Int) + 1) (W : World) : (Instr.slice 9 (.string s) (some (.int q x)) (some (.int q y)) none).run Tryd.prog W = .ok (.string (s.extract k (k + 1))) W := by
  subst hx0; subst hy
  exact run_slice_string W 9 s q q (k : Int) ((k : Int) + 1) Tryd.underlying9 (by omega) (by omega) (by omega)
theorem digU_one (d : Nat) (h : d < 16) : (digU.extract d (d + 1)).data.toList = [hU d] := by
  rw [one_extract digU d h, digU_at d h]
theorem digL_one (d : Nat) (h : d < 16) : (digL.extract d (d + 1)).data.toList = [hx d] := by
  rw [one_extract digL d h, digL_at d h]
end Go.Proofs.YtchgelfomnbpaaaDoor
