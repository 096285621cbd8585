/-
  Of the proofs of layer 7 (values of JSON): the parts PB Words ReadP. No conditions.
-/
import Derived.Test.YtchgelfomnbpaaaDoorZ07
import Derived.Test.YtchgelfomnbpaaaDoorChecked
import Derived.Test.YtchgelfomnbpaaaDoorZ02
import Derived.WalkKit
import Derived.BigCall
import Derived.Lib.Hide
import Derived.Deep.QuietTactic
import Derived.BigQuiet
namespace Go.Proofs.YtchgelfomnbpaaaDoor
open Go.RowKit
open Go.Lib

theorem cut_one (s : Bt) (c : UInt8) (W : World) : Calls Tryd.prog 67 #[.string (bs s), .string ⟨#[c]⟩] W fun e w' => e = .returned (.tuple #[.string (bs (if s.head? = some c then s.drop 1 else s)), .bool (decide (s.head? = some c))]) ∧ w' = W := by
  have h := libCutPre (bs s) (bs [c]) W
  rw [bs_list, bs_list] at h
  have hp : Lib.hasPrefix s [c] = decide (s.head? = some c) := by
    unfold Lib.hasPrefix
    cases s with
    | nil => rfl
    | cons d r =>
      by_cases hd : d = c
      · subst hd
        simp [List.isPrefixOf]
      · have e1 : (c == d) = false := beq_eq_false_iff_ne.2 (Ne.symm hd)
        have e2 : ¬ (d :: r).head? = some c := fun e => hd (Option.some.inj e)
        rw [decide_eq_false e2]
        simp [List.isPrefixOf, e1]
  have ht : Lib.trimPrefix s [c] = if s.head? = some c then s.drop 1 else s := by
    unfold Lib.trimPrefix
    rw [hp]
    by_cases hd : s.head? = some c
    · rw [if_pos hd, decide_eq_true hd, if_pos rfl]; rfl
    · rw [if_neg hd, decide_eq_false hd, if_neg (by simp)]
  rw [hp, ht] at h
  exact h
theorem trim_minus (s : Bt) (W : World) : Calls Tryd.prog 78 #[.string (bs s), .string ⟨#[45]⟩] W fun e w' => e = .returned (.string (bs (s.drop (signL s)))) ∧ w' = W := by
  have h := libTrimPrefix (bs s) (bs [45]) W
  rw [bs_list, bs_list] at h
  have ht : Lib.trimPrefix s [45] = s.drop (signL s) := by
    unfold Lib.trimPrefix Lib.hasPrefix signL
    cases s with
    | nil => rfl
    | cons d r =>
      by_cases hd : d = 45
      · subst hd
        simp [List.isPrefixOf]
      · have e1 : ((45 : UInt8) == d) = false := beq_eq_false_iff_ne.2 (Ne.symm hd)
        have e2 : ¬ (d :: r).head? = some 45 := fun e => hd (Option.some.inj e)
        rw [if_neg e2]
        simp [List.isPrefixOf, e1]
  rw [ht] at h
  exact h
set_option maxRecDepth 100000 in
theorem bwhole_any (s : Bt) (w : World) : Calls Tryd.prog 77 #[.string (bs s)] w (FOut (wholeF s) w) := by
  have HC := Lib.hid (fun W => cut_one s 48 W)
  have HD := Lib.hid (fun W => digits_any s W)
  by_cases h : s.head? = some 48
  · rw [if_pos h, decide_eq_true h] at HC
    obtain ⟨r, hr⟩ : ∃ r, s.drop 1 = r := ⟨_, rfl⟩
    rw [hr] at HC
    have HW : Hid (wholeF s = some r) := Lib.hid (by unfold wholeF; rw [if_pos h, hr])
    clear h hr
    go_enter Tryd.func77, Tryd.ntmps77
    go_wp2_with (go_at_call 67; refine (HC.out _).mono ?_; rintro e w1 ⟨rfl, rfl⟩)
    go_ret2
    exact FOut.good HW.out (Below.refl _ _)
  · rw [if_neg h, decide_eq_false h] at HC
    have HW : Hid (digF s = wholeF s) := Lib.hid (by unfold wholeF; rw [if_neg h])
    rw [HW.out] at HD
    clear h
    go_enter Tryd.func77, Tryd.ntmps77
    go_wp2_with (first
      | (go_at_call 67; refine (HC.out _).mono ?_; rintro e w1 ⟨rfl, rfl⟩)
      | (go_at_call 79; (with_reducible refine (HD.out _).mono ?_); rintro e w1 ⟨rfl, b1⟩))
    go_ret2
    exact ⟨rfl, b1⟩
theorem start_exp (s : Bt) : startL s [101, 69] = decide (s.head? = some 101 ∨ s.head? = some 69) := by
  cases s with
  | nil => rfl
  | cons c r =>
    show decide (c ∈ ([101, 69] : Bt)) = _
    exact decide_eq_decide.2 (by simp)
theorem start_sign (s : Bt) : startL s [43, 45] = decide (s.head? = some 43 ∨ s.head? = some 45) := by
  cases s with
  | nil => rfl
  | cons c r =>
    show decide (c ∈ ([43, 45] : Bt)) = _
    exact decide_eq_decide.2 (by simp)
theorem slice_one7 (s : Bt) (h : s ≠ []) (W : World) : (Instr.slice 9 (.string (bs s)) (some (.int .i64 1)) none none).run Tryd.prog W = .ok (.string (bs (s.drop 1))) W := slice_tail s 1 1 rfl (List.length_pos_iff.2 h) _ rfl W
set_option maxRecDepth 100000 in
set_option maxHeartbeats 1000000 in
/-- The part behind e or E. -/
theorem bnum_any (s : Bt) (w : World) : Calls Tryd.prog 58 #[.string (bs s)] w (FOut (numF s) w) := by
  have HT := Lib.hid (fun W => trim_minus s W)
  have HD := Lib.hid digits_any
  obtain ⟨s1, hs1⟩ : ∃ r, s.drop (signL s) = r := ⟨_, rfl⟩
  have HN : Hid (numF s = match wholeF s1 with | none => none | some r => match fracF r with | none => none | some r => expF r) := Lib.hid (by unfold numF; rw [hs1]; rfl)
  rw [hs1] at HT
  clear hs1
  have HW := Lib.hid (fun W => bwhole_any s1 W)
  cases hw : wholeF s1 with
  | none =>
    rw [hw] at HN HW
    have HN' : Hid (numF s = none) := Lib.hid HN.out
    clear hw HN
    go_enter Tryd.func58, Tryd.ntmps58
    go_wp2_with (first
      | (go_at_call 78; refine (HT.out _).mono ?_; rintro e w1 ⟨rfl, rfl⟩)
      | (go_at_call 77; (with_reducible refine (HW.out _).mono ?_); rintro e w1 ⟨rfl, b1⟩))
    go_ret2
    exact FOut.bad HN'.out b1
  | some r1 =>
    rw [hw] at HN HW
    have HN1 : Hid (numF s = match fracF r1 with | none => none | some r => expF r) := Lib.hid HN.out
    clear hw HN
    have HC := Lib.hid (fun W => cut_one r1 46 W)
    -- behind the fraction
    have core : ∀ (r2 : Bt), numF s = expF r2 → (fracF r1 = some r2) → Calls Tryd.prog 58 #[.string (bs s)] w (FOut (numF s) w) := by
      intro r2 h2 hf2
      have HE := Lib.hid (fun W => starts_w r2 [101, 69] W)
      rw [start_exp] at HE
      by_cases he : r2.head? = some 101 ∨ r2.head? = some 69
      · rw [decide_eq_true he] at HE
        obtain ⟨p, hp⟩ : ∃ p, r2.drop 1 = p := ⟨_, rfl⟩
        have hne : r2 ≠ [] := by rintro rfl; simp at he
        have hsl := slice_one7 r2 hne
        rw [hp] at hsl
        have HS := Lib.hid (fun W => starts_w p [43, 45] W)
        rw [start_sign] at HS
        have hlen : 1 ≤ (bs r2).size := by rw [bs_size]; exact List.length_pos_iff.2 hne
        by_cases hg : p.head? = some 43 ∨ p.head? = some 45
        · rw [decide_eq_true hg] at HS
          obtain ⟨q, hq⟩ : ∃ p', p.drop 1 = p' := ⟨_, rfl⟩
          have hne2 : p ≠ [] := by rintro rfl; simp at hg
          have hsl2 := slice_one7 p hne2
          rw [hq] at hsl2
          have hlen2 : 1 ≤ (bs p).size := by rw [bs_size]; exact List.length_pos_iff.2 hne2
          have HQ : Hid (numF s = digF q) := Lib.hid (by
            rw [h2]
            unfold expF
            rw [if_pos he, hp]
            unfold expSL
            rw [if_pos hg, show 1 + 1 = 2 from rfl, ← hq, ← hp, List.drop_drop])
          have HDQ := Lib.hid (fun W => HD.out q W)
          rw [← HQ.out] at HDQ
          by_cases hd : r1.head? = some 46
          · rw [if_pos hd, decide_eq_true hd] at HC
            obtain ⟨x1, hx1⟩ : ∃ x, r1.drop 1 = x := ⟨_, rfl⟩
            have HDF := Lib.hid (fun W => HD.out x1 W)
            rw [hx1] at HC
            have hff : digF x1 = some r2 := by rw [← hf2]; unfold fracF; rw [if_pos hd, hx1]
            rw [hff] at HDF
            clear he hp hg hq h2 hf2 hd hff hne hne2 hx1
            go_enter Tryd.func58, Tryd.ntmps58
            go_wp2_with (first
              | (go_at_call 78; refine (HT.out _).mono ?_; rintro e w1 ⟨rfl, rfl⟩)
              | (go_at_call 77; (with_reducible refine (HW.out _).mono ?_); rintro e w1 ⟨rfl, b1⟩)
              | (go_at_call 67; refine (HC.out _).mono ?_; rintro e w2 ⟨rfl, rfl⟩)
              | (go_at_call 79; (with_reducible refine (HDF.out _).mono ?_); clear HDF; rintro e w3 ⟨rfl, b3⟩)
              | (go_at_call 80; refine (HE.out _).mono ?_; clear HE; rintro e w4 ⟨rfl, rfl⟩)
              | (go_at_call 80; refine (HS.out _).mono ?_; clear HS; rintro e w5 ⟨rfl, rfl⟩)
              | (go_at_call 79; (with_reducible refine (HDQ.out _).mono ?_); rintro e w6 ⟨rfl, b6⟩))
            go_ret2
            exact ⟨rfl, (b1.trans (b3.mono b1.size)).trans (b6.mono (b1.trans (b3.mono b1.size)).size)⟩
          · rw [if_neg hd, decide_eq_false hd] at HC
            have hff : r1 = r2 := by unfold fracF at hf2; rw [if_neg hd] at hf2; exact Option.some.inj hf2
            subst hff
            clear he hp hg hq h2 hf2 hd hne hne2
            go_enter Tryd.func58, Tryd.ntmps58
            go_wp2_with (first
              | (go_at_call 78; refine (HT.out _).mono ?_; rintro e w1 ⟨rfl, rfl⟩)
              | (go_at_call 77; (with_reducible refine (HW.out _).mono ?_); rintro e w1 ⟨rfl, b1⟩)
              | (go_at_call 67; refine (HC.out _).mono ?_; rintro e w2 ⟨rfl, rfl⟩)
              | (go_at_call 80; refine (HE.out _).mono ?_; clear HE; rintro e w4 ⟨rfl, rfl⟩)
              | (go_at_call 80; refine (HS.out _).mono ?_; clear HS; rintro e w5 ⟨rfl, rfl⟩)
              | (go_at_call 79; (with_reducible refine (HDQ.out _).mono ?_); rintro e w6 ⟨rfl, b6⟩))
            go_ret2
            exact ⟨rfl, b1.trans (b6.mono b1.size)⟩
        · rw [decide_eq_false hg] at HS
          have HQ : Hid (numF s = digF p) := Lib.hid (by
            rw [h2]
            unfold expF
            rw [if_pos he, hp]
            unfold expSL
            rw [if_neg hg, ← hp])
          have HDQ := Lib.hid (fun W => HD.out p W)
          rw [← HQ.out] at HDQ
          by_cases hd : r1.head? = some 46
          · rw [if_pos hd, decide_eq_true hd] at HC
            obtain ⟨x1, hx1⟩ : ∃ x, r1.drop 1 = x := ⟨_, rfl⟩
            have HDF := Lib.hid (fun W => HD.out x1 W)
            rw [hx1] at HC
            have hff : digF x1 = some r2 := by rw [← hf2]; unfold fracF; rw [if_pos hd, hx1]
            rw [hff] at HDF
            clear he hp hg h2 hf2 hd hff hne hx1
            go_enter Tryd.func58, Tryd.ntmps58
            go_wp2_with (first
              | (go_at_call 78; refine (HT.out _).mono ?_; rintro e w1 ⟨rfl, rfl⟩)
              | (go_at_call 77; (with_reducible refine (HW.out _).mono ?_); rintro e w1 ⟨rfl, b1⟩)
              | (go_at_call 67; refine (HC.out _).mono ?_; rintro e w2 ⟨rfl, rfl⟩)
              | (go_at_call 79; (with_reducible refine (HDF.out _).mono ?_); clear HDF; rintro e w3 ⟨rfl, b3⟩)
              | (go_at_call 80; refine (HE.out _).mono ?_; clear HE; rintro e w4 ⟨rfl, rfl⟩)
              | (go_at_call 80; refine (HS.out _).mono ?_; clear HS; rintro e w5 ⟨rfl, rfl⟩)
              | (go_at_call 79; (with_reducible refine (HDQ.out _).mono ?_); rintro e w6 ⟨rfl, b6⟩))
            go_ret2
            exact ⟨rfl, (b1.trans (b3.mono b1.size)).trans (b6.mono (b1.trans (b3.mono b1.size)).size)⟩
          · rw [if_neg hd, decide_eq_false hd] at HC
            have hff : r1 = r2 := by unfold fracF at hf2; rw [if_neg hd] at hf2; exact Option.some.inj hf2
            subst hff
            clear he hp hg h2 hf2 hd hne
            go_enter Tryd.func58, Tryd.ntmps58
            go_wp2_with (first
              | (go_at_call 78; refine (HT.out _).mono ?_; rintro e w1 ⟨rfl, rfl⟩)
              | (go_at_call 77; (with_reducible refine (HW.out _).mono ?_); rintro e w1 ⟨rfl, b1⟩)
              | (go_at_call 67; refine (HC.out _).mono ?_; rintro e w2 ⟨rfl, rfl⟩)
              | (go_at_call 80; refine (HE.out _).mono ?_; clear HE; rintro e w4 ⟨rfl, rfl⟩)
              | (go_at_call 80; refine (HS.out _).mono ?_; clear HS; rintro e w5 ⟨rfl, rfl⟩)
              | (go_at_call 79; (with_reducible refine (HDQ.out _).mono ?_); rintro e w6 ⟨rfl, b6⟩))
            go_ret2
            exact ⟨rfl, b1.trans (b6.mono b1.size)⟩
      · rw [decide_eq_false he] at HE
        have HQ : Hid (numF s = some r2) := Lib.hid (by
          rw [h2]
          unfold expF
          rw [if_neg he])
        by_cases hd : r1.head? = some 46
        · rw [if_pos hd, decide_eq_true hd] at HC
          obtain ⟨x1, hx1⟩ : ∃ x, r1.drop 1 = x := ⟨_, rfl⟩
          have HDF := Lib.hid (fun W => HD.out x1 W)
          rw [hx1] at HC
          have hff : digF x1 = some r2 := by rw [← hf2]; unfold fracF; rw [if_pos hd, hx1]
          rw [hff] at HDF
          clear he h2 hf2 hd hff hx1
          go_enter Tryd.func58, Tryd.ntmps58
          go_wp2_with (first
            | (go_at_call 78; refine (HT.out _).mono ?_; rintro e w1 ⟨rfl, rfl⟩)
            | (go_at_call 77; (with_reducible refine (HW.out _).mono ?_); rintro e w1 ⟨rfl, b1⟩)
            | (go_at_call 67; refine (HC.out _).mono ?_; rintro e w2 ⟨rfl, rfl⟩)
            | (go_at_call 79; (with_reducible refine (HDF.out _).mono ?_); clear HDF; rintro e w3 ⟨rfl, b3⟩)
            | (go_at_call 80; refine (HE.out _).mono ?_; clear HE; rintro e w4 ⟨rfl, rfl⟩))
          go_ret2
          exact FOut.good HQ.out (b1.trans (b3.mono b1.size))
        · rw [if_neg hd, decide_eq_false hd] at HC
          have hff : r1 = r2 := by unfold fracF at hf2; rw [if_neg hd] at hf2; exact Option.some.inj hf2
          subst hff
          clear he h2 hf2 hd
          go_enter Tryd.func58, Tryd.ntmps58
          go_wp2_with (first
            | (go_at_call 78; refine (HT.out _).mono ?_; rintro e w1 ⟨rfl, rfl⟩)
            | (go_at_call 77; (with_reducible refine (HW.out _).mono ?_); rintro e w1 ⟨rfl, b1⟩)
            | (go_at_call 67; refine (HC.out _).mono ?_; rintro e w2 ⟨rfl, rfl⟩)
            | (go_at_call 80; refine (HE.out _).mono ?_; clear HE; rintro e w4 ⟨rfl, rfl⟩))
          go_ret2
          exact FOut.good HQ.out b1
    cases hf : fracF r1 with
    | some r2 =>
      have := HN1.out
      rw [hf] at this
      exact core r2 this hf
    | none =>
      have hn := HN1.out
      rw [hf] at hn
      have HNN : Hid (numF s = none) := Lib.hid hn
      by_cases hd : r1.head? = some 46
      · rw [if_pos hd, decide_eq_true hd] at HC
        obtain ⟨x1, hx1⟩ : ∃ x, r1.drop 1 = x := ⟨_, rfl⟩
        have HDF := Lib.hid (fun W => HD.out x1 W)
        rw [hx1] at HC
        have hff : digF x1 = none := by rw [← hf]; unfold fracF; rw [if_pos hd, hx1]
        rw [hff] at HDF
        clear core hd hff hn hf HN1 hx1
        go_enter Tryd.func58, Tryd.ntmps58
        go_wp2_with (first
          | (go_at_call 78; refine (HT.out _).mono ?_; rintro e w1 ⟨rfl, rfl⟩)
          | (go_at_call 77; (with_reducible refine (HW.out _).mono ?_); rintro e w1 ⟨rfl, b1⟩)
          | (go_at_call 67; refine (HC.out _).mono ?_; rintro e w2 ⟨rfl, rfl⟩)
          | (go_at_call 79; (with_reducible refine (HDF.out _).mono ?_); rintro e w3 ⟨rfl, b3⟩))
        go_ret2
        exact FOut.bad HNN.out (b1.trans (b3.mono b1.size))
      · unfold fracF at hf
        rw [if_neg hd] at hf
        cases hf
set_option maxRecDepth 100000 in
theorem isnum_any (s : Bt) (w : World) : Calls Tryd.prog 40 #[.string (bs s)] w fun e w' => e = .returned (.bool (numF s == some [])) ∧ Below w.heap.size w w' := by
  have HB := Lib.hid (fun W => bnum_any s W)
  cases hf : numF s with
  | none =>
    rw [hf] at HB
    go_enter Tryd.func40, Tryd.ntmps40
    go_wp2_with (go_at_call 58; (with_reducible refine (HB.out _).mono ?_); rintro e w1 ⟨rfl, b1⟩)
    go_ret
    exact ⟨rfl, b1⟩
  | some r =>
    rw [hf] at HB
    go_enter Tryd.func40, Tryd.ntmps40
    go_wp2_with (go_at_call 58; (with_reducible refine (HB.out _).mono ?_); rintro e w1 ⟨rfl, b1⟩)
    go_ret
    refine ⟨ret_b6 ?_, b1⟩
    rw [Lib.toList_data, bs_list]
    cases r <;> rfl
/-- How many bytes at the front are in quotes, the quotes with them; 0: none. -/
def qwL (s : Bt) : Nat := match s with | [] => 0 | c :: u => if c = 34 then (match scanQ u with | none => 0 | some (a, _) => a.length + 2) else 0
set_option maxRecDepth 100000 in
set_option maxHeartbeats 1000000 in
theorem qwidth_any (s : Bt) (w : World) (hs : s.length ≤ 1000000000) : Calls Tryd.prog 69 #[.string (bs s)] w fun e w' => e = .returned (.int .i64 (qwL s)) ∧ w' = w := by
  have HS := Lib.hid (fun W => starts_w s [34] W)
  by_cases h34 : s.head? = some 34
  · obtain ⟨u, hu⟩ : ∃ u, s = 34 :: u := by
      cases s with
      | nil => cases h34
      | cons c u => exact ⟨u, by rw [Option.some.inj h34]⟩
    rw [show startL s [34] = true by rw [hu]; rfl] at HS
    have HQ : Hid (qwL s = match scanQ u with | none => 0 | some (a, _) => a.length + 2) := Lib.hid (by rw [hu]; rfl)
    have hn : s.length = u.length + 1 := by rw [hu]; rfl
    obtain ⟨n, hnn⟩ : ∃ n, u.length = n := ⟨_, rfl⟩
    rw [hnn] at hn
    have hsz : (bs s).size = n + 1 := by rw [bs_size, hn]
    have HUI : Hid (∀ i (hi : i < u.length), ∃ hs' : i + 1 < s.length, s[i + 1] = u[i]) := Lib.hid (fun i hi => ⟨by rw [hn]; omega, by subst hu; rfl⟩)
    have HNN := Lib.hid hnn
    have HN := Lib.hid hn
    rw [hn] at hs
    clear h34 hu hn hnn
    go_enter Tryd.func69, Tryd.ntmps69
    go_wp2_with (go_at_call 80; refine (HS.out _).mono ?_; rintro e w1 ⟨rfl, rfl⟩)
    go_loopw [3] (fun v wr => ∃ i : Nat, i ≤ n + 1 ∧ v = .int .i64 ((i + 1 : Nat) : Int) ∧ Hid (scanSt u i) ∧ wr = w1) (fun v _ => n + 3 - (RowKit.intOf v).toNat)
    case atStart => exact ⟨0, by omega, by rfl, Lib.hid (scanSt_zero u), rfl⟩
    case round =>
      obtain ⟨i, hiu, rfl, HSC, rfl⟩ := hrel
      obtain ⟨p, hp⟩ : ∃ p, i + 1 = p := ⟨_, rfl⟩
      rw [hp]
      by_cases hin : i < n
      · obtain ⟨hps, hpv⟩ := HUI.out i (by rw [HNN.out]; exact hin)
        have hiu' : i < u.length := by rw [HNN.out]; exact hin
        have hps' : p < s.length := by rw [← hp]; exact hps
        have hpv' : s[p] = u[i] := by subst hp; exact hpv
        have i2' : (0 : Int) ≤ (p : Int) := by omega
        have i3' : (p : Int) < (n : Int) + 1 := by omega
        have hdk : decide ((p : Int) < (n : Int) + 1) = true := decide_eq_true i3'
        by_cases hc : u[i] = 34
        · have hix := byte_run s p 34 hps' (by rw [hpv', hc]; rfl)
          have he := scanSt_end hiu' HSC.out hc
          have HE : Hid (qwL s = p + 1) := Lib.hid (by
            rw [HQ.out, he]
            show (u.take i).length + 2 = p + 1
            rw [List.length_take]
            omega)
          clear he hpv hpv' hc
          go_wp2
          go_ret
          exact ⟨ret_i6 (by rw [HE.out]; omega), rfl⟩
        · by_cases hc2 : u[i] = 92
          · have hix := byte_run s p 92 hps' (by rw [hpv', hc2]; rfl)
            have HS2 := Lib.hid (scanSt_two hiu' HSC.out hc2)
            clear hpv hpv' hc hc2 HSC
            go_wp2
            exact ⟨⟨i + 2, by omega, (by rw [← hp]; first | rfl | (congr 1; omega)), HS2, trivial⟩, by show n + 3 - ((p : Int) + 1 + 1).toNat < n + 3 - (p : Int).toNat; omega⟩
          · obtain ⟨z, hz⟩ : ∃ z, (u[i].toNat : Int) = z := ⟨_, rfl⟩
            have hix := byte_run s p z hps' (by rw [hpv']; exact hz)
            have e1 : (z == 34) = false := by rw [← hz]; exact ne_byte (d := 34) hc
            have e2 : (z == 92) = false := by rw [← hz]; exact ne_byte (d := 92) hc2
            have HS2 := Lib.hid (scanSt_one hiu' HSC.out hc hc2)
            clear hpv hpv' hc hc2 HSC hz
            go_wp2
            exact ⟨⟨i + 1, by omega, (by rw [← hp]; first | rfl | (congr 1; omega)), HS2, trivial⟩, by show n + 3 - ((p : Int) + 1).toNat < n + 3 - (p : Int).toNat; omega⟩
      · have hnone := scanSt_none (by rw [HNN.out]; omega) HSC.out
        have HE : Hid (qwL s = 0) := Lib.hid (by rw [HQ.out, hnone])
        have hdk : decide ((p : Int) < (n : Int) + 1) = false := decide_eq_false (by omega)
        clear hnone
        go_wp2
        go_ret
        exact ⟨ret_i6 (by rw [HE.out]; rfl), rfl⟩
  · have hst : startL s [34] = false := by
      cases s with
      | nil => rfl
      | cons c u =>
        show decide (c ∈ ([34] : Bt)) = false
        exact decide_eq_false (fun h => h34 (by rw [List.mem_singleton] at h; rw [h]; rfl))
    have HE : Hid (qwL s = 0) := Lib.hid (by
      cases s with
      | nil => rfl
      | cons c u =>
        unfold qwL
        exact if_neg (fun e => h34 (by rw [e]; rfl)))
    rw [hst] at HS
    clear h34 hst
    go_enter Tryd.func69, Tryd.ntmps69
    go_wp2_with (go_at_call 80; refine (HS.out _).mono ?_; rintro e w1 ⟨rfl, rfl⟩)
    go_ret
    exact ⟨ret_i6 (by rw [HE.out]; rfl), rfl⟩
end Go.Proofs.YtchgelfomnbpaaaDoor
namespace Go.Proofs.YtchgelfomnbpaaaDoor
open Go.RowKit Go.Lib

theorem Tryd.info3 : (Tryd.prog.info? 3).map (fun i => (i.zero, i.size, i.bytes)) = some (some (.int .i64 0), 1, 8) := by kernel_rfl
theorem Tryd.infoB : (Tryd.prog.info? 5).map (fun i => (i.zero, i.size, i.bytes)) = some (some (.int .u8 0), 1, 1) := by kernel_rfl

/-- The slice value at A reads, in w, as these ints. -/
def RI (w : World) (A : Option Addr) (zs : List Int) : Prop :=
  0 < zs.length → ∃ b off, A = some ⟨b, off, none⟩ ∧ b < w.heap.size ∧ ∀ j, j < zs.length → w.cell? ⟨b, off + j, none⟩ = some (.int .i64 (zs.getD j 0))
/-- What a call leaves that answers these ints. -/
def OutI (w : World) (zs : List Int) (e : Ending) (w' : World) : Prop :=
  ∃ A c, e = .returned (.slice A zs.length c) ∧ zs.length ≤ c ∧ RI w' A zs ∧ Below w.heap.size w w'

theorem RI.nil (w : World) (A : Option Addr) : RI w A [] := fun h => absurd h (by simp)
theorem RI.below {w w' : World} {A : Option Addr} {zs : List Int} {B : Nat} (h : RI w A zs) (hB : w.heap.size ≤ B) (hb : Below B w w') : RI w' A zs := fun hz => by
  obtain ⟨b, off, rfl, hlt, hc⟩ := h hz
  have := hb.size
  exact ⟨b, off, rfl, by omega, fun j hj => (hb.cell (p := ⟨b, off + j, none⟩) (by show b < B; omega)).trans (hc j hj)⟩
theorem RI.alloc {w : World} {A : Option Addr} {zs : List Int} (h : RI w A zs) (o : Obj) : RI (w.alloc o) A zs :=
  h.below (Nat.le_refl _) ((Below.refl _ _).alloc (Nat.le_refl _) o)
theorem RI.drew {w : World} {A : Option Addr} {zs : List Int} (h : RI w A zs) : RI w.drew A zs := h
theorem RI.of_own {w : World} {base e : Nat} {v : Value} {zs : List Int} (h : w.ownsRow base e 1 v zs.length (zs.map (Value.int .i64))) :
    ∃ A c, v = .slice A zs.length c ∧ zs.length ≤ c ∧ RI w A zs := by
  rcases h.2 with ⟨rfl, hn⟩ | ⟨g, cap, cur, rfl, hb, hh, hc, _, _, _⟩
  · exact ⟨none, 0, by rw [hn], by omega, fun hz => absurd hz (by omega)⟩
  · refine ⟨some ⟨g, 0, none⟩, cap, rfl, hc, fun _ => ⟨g, 0, rfl, (h.lt g rfl).2, fun j hj => ?_⟩⟩
    rw [Nat.zero_add, h.cellAt j (by omega), List.getElem?_map, List.getElem?_eq_getElem hj]
    simp [List.getD, List.getElem?_eq_getElem hj]
theorem OutI.of_own {w w' : World} {base e : Nat} {v : Value} {zs : List Int} (h : w'.ownsRow base e 1 v zs.length (zs.map (Value.int .i64))) (hb : Below w.heap.size w w') :
    OutI w zs (.returned v) w' := by
  obtain ⟨A, c, rfl, hc, hr⟩ := RI.of_own h
  exact ⟨A, c, rfl, hc, hr, hb⟩
/-- A slice that is owned is kept through what a callee makes. -/
theorem own_below {w w' : World} {base e size n : Nat} {v : Value} {xs : List Value} (h : w.ownsRow base e size v n xs) (hb : Below w.heap.size w w') : w'.ownsRow base e size v n xs := by
  refine h.kept (row := none) ⟨hb.os, hb.tape, hb.output, hb.size, fun k hk _ => hb.block k hk⟩ ?_
  cases v.ownBlock with
  | none => exact .inl rfl
  | some k => exact .inr (by simp)
/-- One element more. -/
theorem own_more {w w1 : World} {base B e : Nat} {v v' : Value} {zs : List Int} {z : Int} {w0 : World} {o : Obj} (hB : B ≤ base) (hown : w.ownsRow base e 1 v zs.length (zs.map (Value.int .i64))) (hb : Below B w0 w) (hBw : B ≤ w.heap.size)
    (hown' : w1.ownsRow base e 1 v' (zs.length + 1) (zs.map (Value.int .i64) ++ [.int .i64 z])) (hg : (w.alloc o).grownBy w1 v.ownBlock) :
    w1.ownsRow base e 1 v' (zs ++ [z]).length ((zs ++ [z]).map (Value.int .i64)) ∧ Below B w0 w1 := by
  refine ⟨by simpa using hown', ?_⟩
  refine (hb.alloc hBw o).grown hg (by simp; omega) (fun k hk => ?_)
  have := (hown.lt k hk).1
  omega
theorem c1_one (w : World) (q : IntKind) (z : Int) (t : TypeId) : ∀ j u, [Value.int q z][j]? = some u → (w.alloc (.cells #[.int q z] t)).cell? ((⟨w.heap.size, 0, none⟩ : Addr).add j) = some u := by
  intro j u hj
  match j, hj with
  | 0, hj => simp at hj; subst hj; simp [Addr.add]
theorem c2_one (q : IntKind) (z : Int) : ∀ u ∈ [Value.int q z], u.oneCell' = true := by
  intro u hu; simp at hu; subst hu; rfl
theorem bcell {W w1 : World} (hb : Below W.heap.size W w1) : (∀ b o, b < W.heap.size → w1.cell? ⟨b, o, none⟩ = W.cell? ⟨b, o, none⟩) :=
  fun b o h => hb.cell (p := ⟨b, o, none⟩) h
theorem ret_int {k : IntKind} {a b : Int} (h : a = b) : Ending.returned (.int k a) = .returned (.int k b) := by rw [h]
end Go.Proofs.YtchgelfomnbpaaaDoor
namespace Go.Proofs.YtchgelfomnbpaaaDoor
open Go.RowKit Go.Lib

theorem ret_bool {a b : Bool} (h : a = b) : Ending.returned (.bool a) = .returned (.bool b) := by rw [h]
theorem is_any (p : Int) (w : World) : Calls Tryd.prog 76 #[.int .i64 p] w fun e w' => e = .returned (.bool (isPt p)) ∧ w = w' := by
  go_enter Tryd.func76, Tryd.ntmps76
  go_wp2
  all_goals (go_ret; refine ⟨ret_bool ?_, rfl⟩; rw [Bool.eq_iff_iff]; simp [isPt]; omega)
/-- What Read answers. -/
def ReadOut (d : Nat × Nat) (w : World) (e : Ending) (w' : World) : Prop := e = .returned (.tuple #[.int .i64 (raw1 d), .int .i64 d.2]) ∧ w = w'
theorem ReadOut.bad {d : Nat × Nat} (w : World) (h : d = (65533, 1)) : ReadOut d w (.returned (.tuple #[.int .i64 (-1), .int .i64 1])) w := by subst h; exact ⟨rfl, rfl⟩
theorem ReadOut.good {d : Nat × Nat} (w : World) {p n : Int} (k : Nat) (h : d = (p.toNat, k)) (hp : 0 ≤ p) (hk : (k : Int) = n) (h1 : p ≠ 65533 ∨ k ≠ 1) : ReadOut d w (.returned (.tuple #[.int .i64 p, .int .i64 n])) w := by
  subst h hk
  refine ⟨?_, rfl⟩
  have : raw1 (p.toNat, k) = p := by unfold raw1; rw [if_neg (by simp only; omega)]; simp only; omega
  rw [this]
/-- The number at place k of the bytes. -/
def at_ (t : ByteArray) (k : Nat) : Nat := (t.get! k).toNat
theorem at_lt (t : ByteArray) (k : Nat) : at_ t k < 256 := UInt8.toNat_lt _
theorem dec_at (t : ByteArray) : Utf8.decode t 0 = decodeN t.size (at_ t 0) (at_ t 1) (at_ t 2) (at_ t 3) := by rw [decode_at]; rfl
/-- What has been read behind k bytes. -/
def accN (b : Int) (t : ByteArray) : Nat → Int
  | 0 => b
  | 1 => b
  | k + 2 => 64 * accN b t (k + 1) + (at_ t (k + 1) : Int) - 128
def ContN (t : ByteArray) (k : Nat) : Prop := ∀ j, 1 ≤ j → j < k → 128 ≤ at_ t j ∧ at_ t j < 192
theorem cont_more {t : ByteArray} {k : Nat} (h : ContN t k) (h1 : 128 ≤ at_ t k) (h2 : at_ t k < 192) : ContN t (k + 1) := fun j a b => by
  by_cases e : j = k
  · subst e; exact ⟨h1, h2⟩
  · exact h j a (by omega)
theorem acc_more (b : Int) (t : ByteArray) (k : Nat) (h : 1 ≤ k) : accN b t (k + 1) = 64 * accN b t k + (at_ t k : Int) - 128 := by
  obtain ⟨j, rfl⟩ : ∃ j, k = j + 1 := ⟨k - 1, by omega⟩
  rfl
theorem acc_bound (b : Int) (t : ByteArray) (h0 : 0 ≤ b) (h1 : b < 32) : ∀ k, k ≤ 4 → ContN t k → 0 ≤ accN b t k ∧ accN b t k < 10000000 := by
  intro k hk hc
  match k, hk, hc with
  | 0, _, _ => exact ⟨h0, by simp only [accN]; omega⟩
  | 1, _, _ => exact ⟨h0, by simp only [accN]; omega⟩
  | 2, _, hc => have a := hc 1 (by omega) (by omega); simp only [accN, Nat.zero_add]; omega
  | 3, _, hc => have a := hc 1 (by omega) (by omega); have a2 := hc 2 (by omega) (by omega); simp only [accN, Nat.zero_add, Nat.reduceAdd]; omega
  | 4, _, hc => have a := hc 1 (by omega) (by omega); have a2 := hc 2 (by omega) (by omega); have a3 := hc 3 (by omega) (by omega); simp only [accN, Nat.zero_add, Nat.reduceAdd]; omega
  | k + 5, hk, _ => omega

set_option maxHeartbeats 2000000 in
theorem plain_short2 (t : ByteArray) (h1 : 194 ≤ at_ t 0) (h2 : at_ t 0 < 224) (hs : t.size < 2) : Utf8.decode t 0 = (65533, 1) := by
  rw [dec_at]
  generalize at_ t 0 = b0 at *
  generalize at_ t 1 = b1
  generalize at_ t 2 = b2
  generalize at_ t 3 = b3
  unfold decodeN
  repeat' split
  all_goals first | rfl | (exfalso; omega)
set_option maxHeartbeats 2000000 in
theorem plain_bad2 (t : ByteArray) (k : Nat) (h1 : 194 ≤ at_ t 0) (h2 : at_ t 0 < 224) (h3 : 1 ≤ k) (h4 : k < 2) (hb : at_ t k < 128 ∨ 192 ≤ at_ t k) : Utf8.decode t 0 = (65533, 1) := by
  rw [dec_at]
  have hk : k = 1 ∨ k = 2 ∨ k = 3 := by omega
  have z1 := at_lt t 1
  have z2 := at_lt t 2
  have z3 := at_lt t 3
  rcases hk with rfl | rfl | rfl
  all_goals
    generalize at_ t 0 = b0 at *
    generalize at_ t 1 = b1 at *
    generalize at_ t 2 = b2 at *
    generalize at_ t 3 = b3 at *
    unfold decodeN
    repeat' split
    all_goals first | rfl | (exfalso; omega)
set_option maxHeartbeats 2000000 in
theorem plain_end2 (t : ByteArray) (h1 : 194 ≤ at_ t 0) (h2 : at_ t 0 < 224) (hs : 2 ≤ t.size) (hc : ContN t 2) :
    Utf8.decode t 0 = if accN ((at_ t 0 : Int) - 192) t 2 < 128 ∨ isPt (accN ((at_ t 0 : Int) - 192) t 2) = false then (65533, 1) else ((accN ((at_ t 0 : Int) - 192) t 2).toNat, 2) := by
  rw [dec_at]
  have c1 := hc 1 (by omega) (by omega)
  skip
  skip
  have EA : accN ((at_ t 0 : Int) - 192) t 2 = accN ((at_ t 0 : Int) - 192) t 2 := rfl
  conv at EA => rhs; simp only [accN, Nat.zero_add, Nat.reduceAdd]
  generalize accN ((at_ t 0 : Int) - 192) t 2 = A at *
  clear hc
  cases q : isPt A with
  | true =>
    have q1 := (isPt_iff A).1 q
    simp only [Bool.true_eq_false, or_false]
    generalize at_ t 0 = b0 at *
    generalize at_ t 1 = b1 at *
    generalize at_ t 2 = b2 at *
    generalize at_ t 3 = b3 at *
    unfold decodeN
    repeat' split
    all_goals first | rfl | (exfalso; omega) | (apply Prod.ext <;> simp only <;> omega)
  | false =>
    have q1 : ¬ (0 ≤ A ∧ A ≤ 1114111 ∧ (A < 55296 ∨ 57343 < A)) := fun h => by rw [(isPt_iff A).2 h] at q; cases q
    simp only [or_true, if_true]
    generalize at_ t 0 = b0 at *
    generalize at_ t 1 = b1 at *
    generalize at_ t 2 = b2 at *
    generalize at_ t 3 = b3 at *
    unfold decodeN
    repeat' split
    all_goals first | rfl | (exfalso; omega) | (apply Prod.ext <;> simp only <;> omega)

set_option maxHeartbeats 2000000 in
theorem plain_short3 (t : ByteArray) (h1 : 224 ≤ at_ t 0) (h2 : at_ t 0 < 240) (hs : t.size < 3) : Utf8.decode t 0 = (65533, 1) := by
  rw [dec_at]
  generalize at_ t 0 = b0 at *
  generalize at_ t 1 = b1
  generalize at_ t 2 = b2
  generalize at_ t 3 = b3
  unfold decodeN
  repeat' split
  all_goals first | rfl | (exfalso; omega)
set_option maxHeartbeats 2000000 in
theorem plain_bad3 (t : ByteArray) (k : Nat) (h1 : 224 ≤ at_ t 0) (h2 : at_ t 0 < 240) (h3 : 1 ≤ k) (h4 : k < 3) (hb : at_ t k < 128 ∨ 192 ≤ at_ t k) : Utf8.decode t 0 = (65533, 1) := by
  rw [dec_at]
  have hk : k = 1 ∨ k = 2 ∨ k = 3 := by omega
  have z1 := at_lt t 1
  have z2 := at_lt t 2
  have z3 := at_lt t 3
  rcases hk with rfl | rfl | rfl
  all_goals
    generalize at_ t 0 = b0 at *
    generalize at_ t 1 = b1 at *
    generalize at_ t 2 = b2 at *
    generalize at_ t 3 = b3 at *
    unfold decodeN
    repeat' split
    all_goals first | rfl | (exfalso; omega)
set_option maxHeartbeats 2000000 in
theorem plain_end3 (t : ByteArray) (h1 : 224 ≤ at_ t 0) (h2 : at_ t 0 < 240) (hs : 3 ≤ t.size) (hc : ContN t 3) :
    Utf8.decode t 0 = if accN ((at_ t 0 : Int) - 224) t 3 < 2048 ∨ isPt (accN ((at_ t 0 : Int) - 224) t 3) = false then (65533, 1) else ((accN ((at_ t 0 : Int) - 224) t 3).toNat, 3) := by
  rw [dec_at]
  have c1 := hc 1 (by omega) (by omega)
  have c2 := hc 2 (by omega) (by omega)
  skip
  have EA : accN ((at_ t 0 : Int) - 224) t 3 = accN ((at_ t 0 : Int) - 224) t 3 := rfl
  conv at EA => rhs; simp only [accN, Nat.zero_add, Nat.reduceAdd]
  generalize accN ((at_ t 0 : Int) - 224) t 3 = A at *
  clear hc
  cases q : isPt A with
  | true =>
    have q1 := (isPt_iff A).1 q
    simp only [Bool.true_eq_false, or_false]
    generalize at_ t 0 = b0 at *
    generalize at_ t 1 = b1 at *
    generalize at_ t 2 = b2 at *
    generalize at_ t 3 = b3 at *
    unfold decodeN
    repeat' split
    all_goals first | rfl | (exfalso; omega) | (apply Prod.ext <;> simp only <;> omega)
  | false =>
    have q1 : ¬ (0 ≤ A ∧ A ≤ 1114111 ∧ (A < 55296 ∨ 57343 < A)) := fun h => by rw [(isPt_iff A).2 h] at q; cases q
    simp only [or_true, if_true]
    generalize at_ t 0 = b0 at *
    generalize at_ t 1 = b1 at *
    generalize at_ t 2 = b2 at *
    generalize at_ t 3 = b3 at *
    unfold decodeN
    repeat' split
    all_goals first | rfl | (exfalso; omega) | (apply Prod.ext <;> simp only <;> omega)

set_option maxHeartbeats 2000000 in
theorem plain_short4 (t : ByteArray) (h1 : 240 ≤ at_ t 0) (h2 : at_ t 0 < 245) (hs : t.size < 4) : Utf8.decode t 0 = (65533, 1) := by
  rw [dec_at]
  generalize at_ t 0 = b0 at *
  generalize at_ t 1 = b1
  generalize at_ t 2 = b2
  generalize at_ t 3 = b3
  unfold decodeN
  repeat' split
  all_goals first | rfl | (exfalso; omega)
set_option maxHeartbeats 2000000 in
theorem plain_bad4 (t : ByteArray) (k : Nat) (h1 : 240 ≤ at_ t 0) (h2 : at_ t 0 < 245) (h3 : 1 ≤ k) (h4 : k < 4) (hb : at_ t k < 128 ∨ 192 ≤ at_ t k) : Utf8.decode t 0 = (65533, 1) := by
  rw [dec_at]
  have hk : k = 1 ∨ k = 2 ∨ k = 3 := by omega
  have z1 := at_lt t 1
  have z2 := at_lt t 2
  have z3 := at_lt t 3
  rcases hk with rfl | rfl | rfl
  all_goals
    generalize at_ t 0 = b0 at *
    generalize at_ t 1 = b1 at *
    generalize at_ t 2 = b2 at *
    generalize at_ t 3 = b3 at *
    unfold decodeN
    repeat' split
    all_goals first | rfl | (exfalso; omega)
set_option maxHeartbeats 2000000 in
theorem plain_end4 (t : ByteArray) (h1 : 240 ≤ at_ t 0) (h2 : at_ t 0 < 245) (hs : 4 ≤ t.size) (hc : ContN t 4) :
    Utf8.decode t 0 = if accN ((at_ t 0 : Int) - 240) t 4 < 65536 ∨ isPt (accN ((at_ t 0 : Int) - 240) t 4) = false then (65533, 1) else ((accN ((at_ t 0 : Int) - 240) t 4).toNat, 4) := by
  rw [dec_at]
  have c1 := hc 1 (by omega) (by omega)
  have c2 := hc 2 (by omega) (by omega)
  have c3 := hc 3 (by omega) (by omega)
  have EA : accN ((at_ t 0 : Int) - 240) t 4 = accN ((at_ t 0 : Int) - 240) t 4 := rfl
  conv at EA => rhs; simp only [accN, Nat.zero_add, Nat.reduceAdd]
  generalize accN ((at_ t 0 : Int) - 240) t 4 = A at *
  clear hc
  cases q : isPt A with
  | true =>
    have q1 := (isPt_iff A).1 q
    simp only [Bool.true_eq_false, or_false]
    generalize at_ t 0 = b0 at *
    generalize at_ t 1 = b1 at *
    generalize at_ t 2 = b2 at *
    generalize at_ t 3 = b3 at *
    unfold decodeN
    repeat' split
    all_goals first | rfl | (exfalso; omega) | (apply Prod.ext <;> simp only <;> omega)
  | false =>
    have q1 : ¬ (0 ≤ A ∧ A ≤ 1114111 ∧ (A < 55296 ∨ 57343 < A)) := fun h => by rw [(isPt_iff A).2 h] at q; cases q
    simp only [or_true, if_true]
    generalize at_ t 0 = b0 at *
    generalize at_ t 1 = b1 at *
    generalize at_ t 2 = b2 at *
    generalize at_ t 3 = b3 at *
    unfold decodeN
    repeat' split
    all_goals first | rfl | (exfalso; omega) | (apply Prod.ext <;> simp only <;> omega)

theorem plain_low (t : ByteArray) (h : at_ t 0 < 128) : Utf8.decode t 0 = (at_ t 0, 1) := by
  rw [dec_at]; simp [decodeN, h]
set_option maxHeartbeats 2000000 in
theorem plain_none (t : ByteArray) (h0 : 128 ≤ at_ t 0) (h : at_ t 0 < 194 ∨ 245 ≤ at_ t 0) : Utf8.decode t 0 = (65533, 1) := by
  rw [dec_at]
  have z := at_lt t 0
  generalize at_ t 0 = b0 at *
  generalize at_ t 1 = b1
  generalize at_ t 2 = b2
  generalize at_ t 3 = b3
  unfold decodeN
  repeat' split
  all_goals first | rfl | (exfalso; omega)
end Go.Proofs.YtchgelfomnbpaaaDoor
