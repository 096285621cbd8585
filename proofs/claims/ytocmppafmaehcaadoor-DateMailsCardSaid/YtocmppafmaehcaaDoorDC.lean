/-
  The walks of the reader's steps oneOf, has, digits, two. Conditions: as each says.
-/
import Derived.Test.YtocmppafmaehcaaDoorDB
namespace Go.Proofs.YtocmppafmaehcaaDoor
open Go.RowKit
open Go.Lib

set_option maxRecDepth 100000 in
theorem oneOf_any (b a c : Nat) (ws : List ByteArray) (s : ByteArray) (bad : Bool) (w : World) (hr : Rd b s bad w) (hw : RT w a ws) (hn : ws.length ≤ 100) (n : Nat) (hl : ws.length = n) :
    Calls Tryd.prog 42 #[.pointer (some ⟨b, 0, none⟩), .slice (some ⟨a, 0, none⟩) n c] w (StepI b bad (oneF (lists ws) s.data.toList) w) := by
  have ht := take_any b a c ws s bad w hr hw hn n hl
  have HT := Lib.hid (tk_neg (lists ws) s.data.toList)
  have hb : -1 ≤ tkI (lists ws) s.data.toList := by
    by_cases h : tkB (lists ws) s.data.toList = true
    · have := HT.out.1.1 h; omega
    · have := (HT.out.2 (by simpa using h)).1; omega
  go_enter Tryd.func42, Tryd.ntmps42
  go_wp2_with fail
  refine ht.mono ?_
  clear ht
  rintro e w1 ⟨s1, rfl, h1, r1, g1⟩
  have H1 := Lib.hid h1
  clear h1
  cases hk : tkB (lists ws) s.data.toList with
  | true =>
    have h0 := HT.out.1.1 hk
    have d : decide (0 ≤ tkI (lists ws) s.data.toList) = true := by simpa using h0
    have HK := Lib.hid hk
    clear hk
    go_wp2_with fail
    refine (need_any b s1 bad true w1 r1).mono ?_
    rintro e w2 ⟨rfl, r2, g2⟩
    go_wp2
    go_ret
    refine ⟨s1, rfl, H1.out, ?_, g1.trans g2⟩
    show Rd b s1 (bad || !tkB _ _) w2
    rw [HK.out]
    exact r2
  | false =>
    have h0 := HT.out.2 hk
    have d : decide (0 ≤ tkI (lists ws) s.data.toList) = false := by rw [h0.1]; decide
    have HK := Lib.hid hk
    clear hk h0
    go_wp2_with fail
    refine (need_any b s1 bad false w1 r1).mono ?_
    rintro e w2 ⟨rfl, r2, g2⟩
    go_wp2
    go_ret
    refine ⟨s1, rfl, H1.out, ?_, g1.trans g2⟩
    show Rd b s1 (bad || !tkB _ _) w2
    rw [HK.out]
    exact r2
/-- What has leaves. -/
def HasOut (b : Nat) (bad : Bool) (ws : List (List UInt8)) (l : List UInt8) (w : World) (e : Ending) (w' : World) : Prop :=
  ∃ s', e = .returned (.bool (tkB ws l)) ∧ s'.data.toList = tkL ws l ∧ Rd b s' bad w' ∧ w.grownBy w' (some b)
set_option maxRecDepth 100000 in
theorem has_any (b a c : Nat) (ws : List ByteArray) (s : ByteArray) (bad : Bool) (w : World) (hr : Rd b s bad w) (hw : RT w a ws) (hn : ws.length ≤ 100) (n : Nat) (hl : ws.length = n) :
    Calls Tryd.prog 45 #[.pointer (some ⟨b, 0, none⟩), .slice (some ⟨a, 0, none⟩) n c] w (HasOut b bad (lists ws) s.data.toList w) := by
  have ht := take_any b a c ws s bad w hr hw hn n hl
  have HT := Lib.hid (tk_neg (lists ws) s.data.toList)
  go_enter Tryd.func45, Tryd.ntmps45
  go_wp2_with fail
  refine ht.mono ?_
  clear ht
  rintro e w1 ⟨s1, rfl, h1, r1, g1⟩
  have H1 := Lib.hid h1
  clear h1
  cases hk : tkB (lists ws) s.data.toList with
  | true =>
    have h0 := HT.out.1.1 hk
    have d : decide (0 ≤ tkI (lists ws) s.data.toList) = true := by simpa using h0
    have HK := Lib.hid hk
    clear hk
    go_wp2
    go_ret
    exact ⟨s1, by rw [HK.out]; rfl, H1.out, r1, g1⟩
  | false =>
    have h0 := HT.out.2 hk
    have d : decide (0 ≤ tkI (lists ws) s.data.toList) = false := by rw [h0.1]; decide
    have HK := Lib.hid hk
    clear hk h0
    go_wp2
    go_ret
    exact ⟨s1, by rw [HK.out]; rfl, H1.out, r1, g1⟩

/-! digits -/
theorem drop_extract (s : ByteArray) (k : Nat) : (s.extract k s.size).data.toList = s.data.toList.drop k := by
  simp [ByteArray.data_extract]
  rw [List.take_of_length_le (by rw [List.length_drop]; simp)]
def StepD (b : Nat) (bad : Bool) (f : (Int × Int) × List UInt8 × Bool) (w : World) (e : Ending) (w' : World) : Prop :=
  ∃ s', e = .returned (.tuple #[.int .i64 f.1.1, .int .i64 f.1.2]) ∧ s'.data.toList = f.2.1 ∧ Rd b s' (bad || !f.2.2) w' ∧ w.grownBy w' (some b)
theorem dgs_stop (k most : Nat) (s : ByteArray) (h1 : k ≤ most) (h2 : k ≤ s.size) (ha : (s.data.toList.take k).all isDg = true) (hs : k = most ∨ k = s.size ∨ ∃ h : k < s.size, isDg s[k] = false) : dgs most s.data.toList = s.data.toList.take k := by
  have hd : Dg k (s.data.toList.take k) := ⟨by rw [List.length_take, ← size_list]; omega, ha⟩
  have e := List.take_append_drop k s.data.toList
  rcases hs with rfl | rfl | ⟨h, hn⟩
  · have := dgs_full (s.data.toList.drop k) hd
    rwa [e] at this
  · have hr : s.data.toList.drop s.size = [] := List.drop_eq_nil_of_le (by rw [← size_list]; omega)
    have := dgs_part (k := most) (r := s.data.toList.drop s.size) hd h1 (fun c t h => by rw [hr] at h; cases h)
    rwa [e] at this
  · have := dgs_part (k := most) (r := s.data.toList.drop k) hd h1 (fun c t hc => by
      rw [List.drop_eq_getElem_cons (by rw [← size_list]; exact h)] at hc
      cases hc
      exact hn)
    rwa [e] at this
set_option maxRecDepth 100000 in
set_option maxHeartbeats 1000000 in
theorem digits_any (b : Nat) (s : ByteArray) (bad : Bool) (least most : Nat) (w : World) (hm : most ≤ 9) (hr : Rd b s bad w) :
    Calls Tryd.prog 41 #[.pointer (some ⟨b, 0, none⟩), .int .i64 least, .int .i64 most] w (StepD b bad (digF least most s.data.toList) w) := by
  have h0 := hr.left
  have hf := hr.free 0
  go_enter Tryd.func41, Tryd.ntmps41
  go_wp2
  go_loop [6, 7] (fun n i => ∃ k : Nat, k ≤ most ∧ k ≤ s.size ∧ i = .int .i64 k ∧ n = .int .i64 (valG (s.data.toList.take k)) ∧ Hid ((s.data.toList.take k).all isDg = true)) (fun _ i => most - (RowKit.intOf i).toNat)
  case atStart => exact ⟨0, Nat.zero_le _, Nat.zero_le _, rfl, rfl, by show _ = _; rfl⟩
  case round =>
    obtain ⟨k, hk1, hk2, rfl, rfl, ha⟩ := hrel
    have hv := valG_le (s.data.toList.take k) 9 (by rw [List.length_take]; omega) ha.out
    have hv2 : valG (s.data.toList.take k) ≤ 999999999 := hv.2
    have hv1 := hv.1
    clear hv
    have HV : Hid (valG (s.data.toList.take k) = valG (s.data.toList.take k)) := by show _ = _; rfl
    by_cases hgo : k < most ∧ ∃ h : k < s.size, isDg s[k] = true
    · obtain ⟨g1, g2, g3⟩ := hgo
      have HT := Lib.hid (take_snoc s k g2)
      have hd := isDg_yes g3
      have HG := Lib.hid g3
      have hD := fun W => isDigit_any s[k] W
      rw [g3] at hD
      clear g3
      have hb := UInt8.toNat_lt s[k]
      have HN := Lib.hid (show valG (s.data.toList.take (k + 1)) = 10 * valG (s.data.toList.take k) + ((s[k].toNat : Int) - 48) by rw [HT.out, valG_snoc])
      have HA := Lib.hid (show (s.data.toList.take (k + 1)).all isDg = true by rw [HT.out, List.all_append, ha.out]; simpa using HG.out)
      generalize valG (s.data.toList.take k) = n at *
      go_wp2_with (go_at_call 57; (with_reducible refine (hD _).mono ?_); rintro e w' ⟨rfl, rfl⟩)
      go_round
      case rel => exact ⟨k + 1, by omega, by omega, by go_num, by rw [HN.out], HA.out⟩
      case measure => simp [RowKit.intOf]; omega
    · have hstop : k = most ∨ k = s.size ∨ ∃ h : k < s.size, isDg s[k] = false := by
        by_cases e1 : k = most
        · exact .inl e1
        · by_cases e2 : k = s.size
          · exact .inr (.inl e2)
          · refine .inr (.inr ⟨by omega, ?_⟩)
            cases hc : isDg (s[k]'(by omega)) with
            | false => rfl
            | true => exact absurd ⟨by omega, by omega, hc⟩ hgo
      clear hgo
      have HE := Lib.hid (dgs_stop k most s hk1 hk2 ha.out hstop)
      have HF := Lib.hid (show digF least most s.data.toList = ((valG (s.data.toList.take k), (k : Int)), s.data.toList.drop k, decide (least ≤ k)) by
        unfold digF
        rw [HE.out, List.length_take, ← size_list, Nat.min_eq_left hk2])
      clear HE
      have HX := Lib.hid (drop_extract s k)
      have hrs := hr.set0 (s.extract k s.size)
      generalize valG (s.data.toList.take k) = n at *
      by_cases hle : least ≤ k
      · have dl : decide (least ≤ k) = true := by simpa using hle
        have HL := Lib.hid dl
        rcases hstop with h | h | ⟨h, hn⟩
        · have d1 : decide (k < most) = false := by simp; omega
          clear h
          go_wp2_with (first | (go_at_call 47; (with_reducible refine (need_any b _ bad true _ hrs).mono ?_); rintro e w2 ⟨rfl, r2, g2⟩))
          go_ret2
          exact ⟨_, by rw [HF.out]; rfl, by rw [HF.out]; exact HX.out, by rw [HF.out, HL.out]; exact r2, (grown_set _ _ _ _).trans g2⟩
        · by_cases hm2 : k < most
          · have d1 : decide (k < s.size) = false := by simp; omega
            clear h
            go_wp2_with (first | (go_at_call 47; (with_reducible refine (need_any b _ bad true _ hrs).mono ?_); rintro e w2 ⟨rfl, r2, g2⟩))
            go_ret2
            exact ⟨_, by rw [HF.out]; rfl, by rw [HF.out]; exact HX.out, by rw [HF.out, HL.out]; exact r2, (grown_set _ _ _ _).trans g2⟩
          · have d1 : decide (k < most) = false := by simp; omega
            clear h
            go_wp2_with (first | (go_at_call 47; (with_reducible refine (need_any b _ bad true _ hrs).mono ?_); rintro e w2 ⟨rfl, r2, g2⟩))
            go_ret2
            exact ⟨_, by rw [HF.out]; rfl, by rw [HF.out]; exact HX.out, by rw [HF.out, HL.out]; exact r2, (grown_set _ _ _ _).trans g2⟩
        · have hD := fun W => isDigit_any s[k] W
          rw [hn] at hD
          clear hn
          by_cases hm2 : k < most
          · skip
            go_wp2_with (first | (go_at_call 47; (with_reducible refine (need_any b _ bad true _ hrs).mono ?_); rintro e w2 ⟨rfl, r2, g2⟩) | (go_at_call 57; (with_reducible refine (hD _).mono ?_); rintro e w' ⟨rfl, rfl⟩))
            go_ret2
            exact ⟨_, by rw [HF.out]; rfl, by rw [HF.out]; exact HX.out, by rw [HF.out, HL.out]; exact r2, (grown_set _ _ _ _).trans g2⟩
          · have d1 : decide (k < most) = false := by simp; omega
            go_wp2_with (first | (go_at_call 47; (with_reducible refine (need_any b _ bad true _ hrs).mono ?_); rintro e w2 ⟨rfl, r2, g2⟩))
            go_ret2
            exact ⟨_, by rw [HF.out]; rfl, by rw [HF.out]; exact HX.out, by rw [HF.out, HL.out]; exact r2, (grown_set _ _ _ _).trans g2⟩
      · have dl : decide (least ≤ k) = false := by simpa using hle
        have HL := Lib.hid dl
        rcases hstop with h | h | ⟨h, hn⟩
        · have d1 : decide (k < most) = false := by simp; omega
          clear h
          go_wp2_with (first | (go_at_call 47; (with_reducible refine (need_any b _ bad false _ hrs).mono ?_); rintro e w2 ⟨rfl, r2, g2⟩))
          go_ret2
          exact ⟨_, by rw [HF.out]; rfl, by rw [HF.out]; exact HX.out, by rw [HF.out, HL.out]; exact r2, (grown_set _ _ _ _).trans g2⟩
        · by_cases hm2 : k < most
          · have d1 : decide (k < s.size) = false := by simp; omega
            clear h
            go_wp2_with (first | (go_at_call 47; (with_reducible refine (need_any b _ bad false _ hrs).mono ?_); rintro e w2 ⟨rfl, r2, g2⟩))
            go_ret2
            exact ⟨_, by rw [HF.out]; rfl, by rw [HF.out]; exact HX.out, by rw [HF.out, HL.out]; exact r2, (grown_set _ _ _ _).trans g2⟩
          · have d1 : decide (k < most) = false := by simp; omega
            clear h
            go_wp2_with (first | (go_at_call 47; (with_reducible refine (need_any b _ bad false _ hrs).mono ?_); rintro e w2 ⟨rfl, r2, g2⟩))
            go_ret2
            exact ⟨_, by rw [HF.out]; rfl, by rw [HF.out]; exact HX.out, by rw [HF.out, HL.out]; exact r2, (grown_set _ _ _ _).trans g2⟩
        · have hD := fun W => isDigit_any s[k] W
          rw [hn] at hD
          clear hn
          by_cases hm2 : k < most
          · skip
            go_wp2_with (first | (go_at_call 47; (with_reducible refine (need_any b _ bad false _ hrs).mono ?_); rintro e w2 ⟨rfl, r2, g2⟩) | (go_at_call 57; (with_reducible refine (hD _).mono ?_); rintro e w' ⟨rfl, rfl⟩))
            go_ret2
            exact ⟨_, by rw [HF.out]; rfl, by rw [HF.out]; exact HX.out, by rw [HF.out, HL.out]; exact r2, (grown_set _ _ _ _).trans g2⟩
          · have d1 : decide (k < most) = false := by simp; omega
            go_wp2_with (first | (go_at_call 47; (with_reducible refine (need_any b _ bad false _ hrs).mono ?_); rintro e w2 ⟨rfl, r2, g2⟩))
            go_ret2
            exact ⟨_, by rw [HF.out]; rfl, by rw [HF.out]; exact HX.out, by rw [HF.out, HL.out]; exact r2, (grown_set _ _ _ _).trans g2⟩
/-- Two digits of a number from low to high. -/
theorem twoF_of (lo hi : Int) (l : List UInt8) : twoF lo hi l = ((digF 2 2 l).1.1, (digF 2 2 l).2.1, (digF 2 2 l).2.2 && (decide (lo ≤ (digF 2 2 l).1.1) && decide ((digF 2 2 l).1.1 ≤ hi))) := rfl
theorem digF_bd (least most : Nat) (l : List UInt8) : 0 ≤ (digF least most l).1.1 ∧ (digF least most l).1.1 ≤ 10 ^ most - 1 ∧ 0 ≤ (digF least most l).1.2 ∧ (digF least most l).1.2 ≤ most := by
  have h := valG_le (dgs most l) most (dgs_le most l).1 (dgs_all most l)
  have := (dgs_le most l).1
  unfold digF
  exact ⟨h.1, h.2, by simp, by simpa using this⟩
theorem twoF_bd (lo hi : Int) (l : List UInt8) : 0 ≤ (twoF lo hi l).1 ∧ (twoF lo hi l).1 ≤ 99 := by
  have h := digF_bd 2 2 l
  exact ⟨h.1, h.2.1⟩
set_option maxRecDepth 100000 in
theorem two_any (b : Nat) (s : ByteArray) (bad : Bool) (lo hi : Int) (w : World) (hr : Rd b s bad w) :
    Calls Tryd.prog 43 #[.pointer (some ⟨b, 0, none⟩), .int .i64 lo, .int .i64 hi] w (StepI b bad (twoF lo hi s.data.toList) w) := by
  have hd := digits_any b s bad 2 2 w (by omega) hr
  rw [twoF_of]
  have hbd := digF_bd 2 2 s.data.toList
  unfold StepD at hd
  generalize digF 2 2 s.data.toList = f at *
  obtain ⟨⟨n, k⟩, l1, o⟩ := f
  have hn0 : 0 ≤ n := hbd.1
  have hn1 : n ≤ 99 := hbd.2.1
  clear hbd
  show Calls _ _ _ _ (StepI b bad (n, l1, o && (decide (lo ≤ n) && decide (n ≤ hi))) w)
  go_enter Tryd.func43, Tryd.ntmps43
  go_wp2_with fail
  refine hd.mono ?_
  clear hd
  rintro e w1 ⟨s1, rfl, h1, r1, g1⟩
  have H1 := Lib.hid h1
  clear h1
  by_cases c1 : lo ≤ n
  · by_cases c2 : n ≤ hi
    · have d1 : decide (lo ≤ n) = true := by simpa using c1
      have d2 : decide (n ≤ hi) = true := by simpa using c2
      have HD := Lib.hid (show (bad || !(o && (decide (lo ≤ n) && decide (n ≤ hi)))) = ((bad || !o) || !true) by rw [d1, d2]; simp)
      go_wp2_with (go_at_call 47; (with_reducible refine (need_any b s1 (bad || !o) true w1 r1).mono ?_); rintro e w2 ⟨rfl, r2, g2⟩)
      go_ret
      exact ⟨s1, rfl, H1.out, by show Rd b s1 (bad || !(o && (decide (lo ≤ n) && decide (n ≤ hi)))) w2; rw [HD.out]; exact r2, g1.trans g2⟩
    · have d1 : decide (lo ≤ n) = true := by simpa using c1
      have d2 : decide (n ≤ hi) = false := by simpa using c2
      have HD := Lib.hid (show (bad || !(o && (decide (lo ≤ n) && decide (n ≤ hi)))) = ((bad || !o) || !false) by rw [d1, d2]; simp)
      go_wp2_with (go_at_call 47; (with_reducible refine (need_any b s1 (bad || !o) false w1 r1).mono ?_); rintro e w2 ⟨rfl, r2, g2⟩)
      go_ret
      exact ⟨s1, rfl, H1.out, by show Rd b s1 (bad || !(o && (decide (lo ≤ n) && decide (n ≤ hi)))) w2; rw [HD.out]; exact r2, g1.trans g2⟩
  · have d1 : decide (lo ≤ n) = false := by simpa using c1
    have HD := Lib.hid (show (bad || !(o && (decide (lo ≤ n) && decide (n ≤ hi)))) = ((bad || !o) || !false) by rw [d1]; simp)
    go_wp2_with (go_at_call 47; (with_reducible refine (need_any b s1 (bad || !o) false w1 r1).mono ?_); rintro e w2 ⟨rfl, r2, g2⟩)
    go_ret
    exact ⟨s1, rfl, H1.out, by show Rd b s1 (bad || !(o && (decide (lo ≤ n) && decide (n ≤ hi)))) w2; rw [HD.out]; exact r2, g1.trans g2⟩
end Go.Proofs.YtocmppafmaehcaaDoor
