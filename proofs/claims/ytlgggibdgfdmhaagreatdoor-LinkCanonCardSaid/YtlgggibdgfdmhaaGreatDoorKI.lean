/-
  The walks of package link's withoutDots and Dots. Conditions: texts of at most a million bytes; the library's variables hold what they are laid with.
-/
import Derived.Test.YtlgggibdgfdmhaaGreatDoorKH
namespace Go.Proofs.YtlgggibdgfdmhaaGreatDoor
open Go.RowKit
open Go.Lib

theorem flat_last (out : List (List UInt8)) (h : ∀ x ∈ out, (47 : UInt8) ∉ x) : (out = [] ∧ lastS (flatL out) = -1) ∨ ∃ n : Nat, lastS (flatL out) = n ∧ n ≤ (flatL out).length ∧ (flatL out).take n = flatL out.dropLast := by
  rcases List.eq_nil_or_concat out with h0 | ⟨m, d, hm⟩
  · exact .inl ⟨h0, by rw [h0]; exact lastS_no [] (by simp)⟩
  · right
    rw [List.concat_eq_append] at hm
    subst hm
    refine ⟨(flatL m).length, ?_, ?_, ?_⟩
    · rw [flat_snoc, lastS_at _ _ (h d (by simp))]
    · rw [flat_length_snoc]; omega
    · rw [flat_snoc, List.take_left, List.dropLast_concat]
/-- What the loop knows. -/
def DRel (w : World) (T : List (List UInt8)) (N : Nat) (pv lv ov mv : Value) (wr : World) : Prop :=
  ∃ (r : ByteArray) (out : List (List UInt8)) (lo m : Bool), pv = .string r ∧ ov = .bool lo ∧ mv = .bool m ∧ OwnB wr w.heap.size lv (flatL out) ∧ Below w.heap.size w wr ∧ (∀ x ∈ out, (47 : UInt8) ∉ x) ∧
    (m = true → dgo out false (splitP 47 r.data.toList) = T ∧ (flatL out).length + r.size ≤ N) ∧ (m = false → dend out lo = T ∧ (flatL out).length ≤ N + 1)
def dMeas (pv mv : Value) : Nat := match pv, mv with
  | .string r, .bool true => r.size + 1
  | _, _ => 0
theorem dgo_any (out : List (List UInt8)) (b c : Bool) (xs : List (List UInt8)) (h : xs ≠ []) : dgo out b xs = dgo out c xs := by
  cases xs with
  | nil => exact absurd rfl h
  | cons x r => rfl
theorem dgo_cut (out : List (List UInt8)) (l : List UInt8) : dgo out false (splitP 47 l) = if (cut l [47]).2.2 = true then dgo (dstep out (cut l [47]).1) false (splitP 47 (cut l [47]).2.1) else dend (dstep out (cut l [47]).1) (dotB (cut l [47]).1) := by
  rw [splitP_cut]
  split
  · show dgo (dstep out (cut l [47]).1) (dotB (cut l [47]).1) _ = _
    exact dgo_any _ _ _ _ (splitP_ne _ _)
  · rfl
theorem cut_len (l : List UInt8) : (cut l [47]).1.length + (cut l [47]).2.1.length + (if (cut l [47]).2.2 = true then 1 else 0) = l.length ∧ 47 ∉ (cut l [47]).1 := by
  rcases cut1_or l 47 with ⟨h, e⟩ | ⟨a, b, rfl, h, e⟩
  · rw [e]; exact ⟨by simp, h⟩
  · rw [e]; exact ⟨by simp; omega, h⟩
set_option maxRecDepth 100000 in
set_option maxHeartbeats 4000000 in
theorem withoutDots_any (s : ByteArray) (w : World) (hE : Env w) (hs : s.size ≤ 1000000) : Calls Tryz.prog 35 #[.string s] w fun e w' => e = .returned (.string (bs (flatL (dgo [] false (splitP 47 s.data.toList))))) ∧ Below w.heap.size w w' := by
  obtain ⟨T, hT⟩ : ∃ T, T = dgo [] false (splitP 47 s.data.toList) := ⟨_, rfl⟩
  rw [← hT]
  have HT := Lib.hid hT.symm
  clear hT
  go_enter Tryz.func35, Tryz.ntmps35
  go_wp2
  go_loopw [0, 3, 4, 5] (fun pv lv ov mv wr => DRel w T s.size pv lv ov mv wr) (fun pv _ _ mv _ => dMeas pv mv)
  case atStart => exact ⟨s, [], false, true, rfl, rfl, rfl, ownB_nil _ _, Below.refl _ _, by simp, fun _ => ⟨HT.out, by simp [flatL]⟩, by simp⟩
  case round =>
    obtain ⟨r, out, lo, m, rfl, rfl, rfl, hown, hbw, hno, hm1, hm0⟩ := hrel
    have hbsz := hbw.size
    cases m with
    | true =>
      obtain ⟨hg, hlen⟩ := hm1 rfl
      clear hm0 hm1
      have hc := cut_any r ⟨#[47]⟩ wr (hE.below hbw) (by omega)
      unfold CutOut at hc
      rw [show (⟨#[47]⟩ : ByteArray).data.toList = [47] from rfl] at hc
      have hcl := cut_len r.data.toList
      rw [← size_list] at hcl
      rw [dgo_cut] at hg
      generalize (cut r.data.toList [47]).1 = pa at *
      generalize (cut r.data.toList [47]).2.1 = nx at *
      generalize (cut r.data.toList [47]).2.2 = ok at *
      obtain ⟨hcl, hpa⟩ := hcl
      have HG := Lib.hid hg
      have HNO := Lib.hid hno
      clear hg hno
      -- the next state
      have HNX : ∀ lo', lo' = dotB pa → Hid ((ok = true → dgo (dstep out pa) false (splitP 47 (bs nx).data.toList) = T ∧ (flatL (dstep out pa)).length + (bs nx).size ≤ s.size) ∧ (ok = false → dend (dstep out pa) lo' = T ∧ (flatL (dstep out pa)).length ≤ s.size + 1) ∧ ∀ x ∈ dstep out pa, (47 : UInt8) ∉ x) := by
        intro lo' hlo
        have hdl : (flatL (dstep out pa)).length ≤ (flatL out).length + 1 + pa.length := by
          unfold dstep
          split
          · have := flat_dropLast out; omega
          · split
            · omega
            · rw [flat_length_snoc]; omega
        refine ⟨fun h => ?_, fun h => ?_, ?_⟩
        · have := HG.out
          rw [if_pos h] at this
          rw [if_pos h] at hcl
          exact ⟨this, by rw [bs_size]; omega⟩
        · have := HG.out
          rw [if_neg (by simp [h])] at this
          rw [if_neg (by simp [h])] at hcl
          exact ⟨hlo ▸ this, by omega⟩
        · intro x hx
          unfold dstep at hx
          split at hx
          · exact HNO.out x (List.dropLast_subset _ hx)
          · split at hx
            · exact HNO.out x hx
            · rw [List.mem_append, List.mem_singleton] at hx
              rcases hx with hx | rfl
              · exact HNO.out x hx
              · exact hpa
      have hplen : pa.length ≤ 1000000 := by omega
      have hnlen : nx.length ≤ r.size := by omega
      have hmeas : (if ok = true then nx.length + 1 else 0) < r.size + 1 := by
        cases ok
        · simp
        · simp at hcl ⊢; omega
      go_wp2_with fail
      refine hc.mono ?_
      clear hc
      rintro e w1 ⟨rfl, b1⟩
      have hown1 := hown.below b1
      have B1 := hbw.trans (b1.mono hbsz)
      have hz1 := B1.size
      clear hown hbw b1 hbsz
      obtain ⟨P, hP⟩ : ∃ P, P = bs pa := ⟨_, rfl⟩
      rw [← hP]
      have HPL := Lib.hid (show P.toList = pa by rw [Lib.toList_data, hP]; rfl)
      have HPD := Lib.hid (show P.data.toList = pa by rw [hP]; rfl)
      have hPs : P.size = pa.length := by rw [hP, bs_size]
      clear hP
      by_cases q1 : pa = [46, 46]
      · have HN2 := HNX true (by rw [q1]; decide)
        have HD := Lib.hid (show dstep out pa = out.dropLast by unfold dstep; rw [if_pos q1])
        rw [HD.out] at HN2
        have e1 : (P.toList == ([46, 46] : List UInt8)) = true := by rw [HPL.out, q1]; rfl
        clear HNX q1
        have hli := last_any _ _ w1 w.heap.size hown1 (by omega)
        have hfl := flat_last out HNO.out
        rcases own_form hown1 with ⟨rfl, hnil⟩ | ⟨g, cap, rfl, hcap, hcm⟩
        · have hout : out = [] := by
            rcases List.eq_nil_or_concat out with h0 | ⟨mm, d, hm⟩
            · exact h0
            · rw [hm, List.concat_eq_append, flat_snoc] at hnil; simp at hnil
          subst hout
          rw [show lastS (flatL []) = -1 from lastS_no [] (by simp)] at hli
          clear hfl hnil
          go_wp2_with fail
          refine hli.mono ?_
          clear hli
          rintro e w2 ⟨rfl, rfl⟩
          go_wp2
          go_roundw
          case rel => exact ⟨bs nx, [], true, ok, rfl, rfl, rfl, hown1, B1, HN2.out.2.2, HN2.out.1, HN2.out.2.1⟩
          case measure => cases ok <;> simp [dMeas, bs_size] at hmeas ⊢ <;> omega
        · rcases hfl with ⟨hout, hl⟩ | ⟨n, hl, hn1, hn2⟩
          · rw [hl] at hli
            subst hout
            have hown2 : OwnB w1 w.heap.size (.slice (some ⟨g, 0, none⟩) 0 cap) (flatL [].dropLast) := own_take hown1 0 (by omega)
            clear hown1 hl
            rw [show (flatL ([] : List (List UInt8))).length = 0 from rfl] at *
            go_wp2_with fail
            refine hli.mono ?_
            clear hli
            rintro e w2 ⟨rfl, rfl⟩
            go_wp2
            go_roundw
            case rel => exact ⟨bs nx, [].dropLast, true, ok, rfl, rfl, rfl, hown2, B1, HN2.out.2.2, HN2.out.1, HN2.out.2.1⟩
            case measure => cases ok <;> simp [dMeas, bs_size] at hmeas ⊢ <;> omega
          · rw [hl] at hli
            have hown2 : OwnB w1 w.heap.size (.slice (some ⟨g, 0, none⟩) n cap) (flatL out.dropLast) := by rw [← hn2]; exact own_take hown1 n hn1
            clear hown1 hl hn2
            generalize hfo : (flatL out).length = fo at *
            clear hfo
            unfold maxLen at hcm
            go_wp2_with fail
            refine hli.mono ?_
            clear hli
            rintro e w2 ⟨rfl, rfl⟩
            go_wp2
            go_roundw
            case rel => exact ⟨bs nx, out.dropLast, true, ok, rfl, rfl, rfl, hown2, B1, HN2.out.2.2, HN2.out.1, HN2.out.2.1⟩
            case measure => cases ok <;> simp [dMeas, bs_size] at hmeas ⊢ <;> omega
      · have e1 : (P.toList == ([46, 46] : List UInt8)) = false := by rw [HPL.out]; simpa using q1
        by_cases q2 : pa = [46]
        · have HN2 := HNX true (by rw [q2]; decide)
          have HD := Lib.hid (show dstep out pa = out by unfold dstep; rw [if_neg q1, if_pos q2])
          rw [HD.out] at HN2
          have e2 : (P.toList == ([46] : List UInt8)) = true := by rw [HPL.out, q2]; rfl
          clear HNX q1 q2
          go_wp2
          go_roundw
          case rel => exact ⟨bs nx, out, true, ok, rfl, rfl, rfl, hown1, B1, HN2.out.2.2, HN2.out.1, HN2.out.2.1⟩
          case measure => cases ok <;> simp [dMeas, bs_size] at hmeas ⊢ <;> omega
        · have HN2 := HNX false (by simp [dotB, q1, q2])
          have HD := Lib.hid (show dstep out pa = out ++ [pa] by unfold dstep; rw [if_neg q1, if_neg q2])
          rw [HD.out] at HN2
          have e2 : (P.toList == ([46] : List UInt8)) = false := by rw [HPL.out]; simpa using q2
          clear HNX q1 q2
          go_wp2_with (at_builtin; refine appB rfl _ _ rfl w1 w w.heap.size w.heap.size _ (flatL out) [47] _ 1 rfl rfl rfl (by exact hown1) rfl (by omega) (by omega) (Nat.le_refl _) B1 ?_)
          intro v2 w2 hown2 B2
          have hz2 := B2.size
          clear hown1 B1
          go_wp2_with (at_builtin; refine appT rfl _ _ rfl w2 w w.heap.size w.heap.size _ (flatL out ++ [47]) P rfl (by exact hown2) rfl (by simp; omega) (by omega) (Nat.le_refl _) B2 ?_)
          intro v3 w3 hown3 B3
          clear hown2 B2
          have hown4 : OwnB w3 w.heap.size v3 (flatL (out ++ [pa])) := by
            rw [flat_snoc]; rw [HPD.out] at hown3; exact hown3
          clear hown3
          go_wp2
          go_roundw
          case rel => exact ⟨bs nx, out ++ [pa], false, ok, rfl, rfl, rfl, hown4, B3, HN2.out.2.2, HN2.out.1, HN2.out.2.1⟩
          case measure => cases ok <;> simp [dMeas, bs_size] at hmeas ⊢ <;> omega
    | false =>
      obtain ⟨hd, hlen⟩ := hm0 rfl
      clear hm0 hm1 hno
      cases lo with
      | false =>
        have HD := Lib.hid (show out = T from hd)
        clear hd
        have hcv := hown.conv
        go_wp2
        go_ret
        exact ⟨by rw [← HD.out]; rfl, hbw⟩
      | true =>
        have HD := Lib.hid (show out ++ [[]] = T from hd)
        clear hd
        go_wp2_with (at_builtin; refine appB rfl _ _ rfl wr w w.heap.size w.heap.size _ (flatL out) [47] _ 1 rfl rfl rfl (by exact hown) rfl (by omega) (by omega) (Nat.le_refl _) hbw ?_)
        intro v2 w2 hown2 B2
        clear hown hbw
        have hcv := hown2.conv
        go_wp2
        go_ret
        exact ⟨by rw [← HD.out, flat_snoc]; rfl, B2⟩
set_option maxRecDepth 100000 in
theorem dots_any (s : ByteArray) (w : World) (hE : Env w) (hs : s.size ≤ 1000000) : Calls Tryz.prog 16 #[.string s] w fun e w' => e = .returned (.string (bs (dotsL s.data.toList))) ∧ Below w.heap.size w w' := by
  have hp := hasPrefix_any s ⟨#[47]⟩ w
  rw [show (⟨#[47]⟩ : ByteArray).data.toList = [47] from rfl] at hp
  have hpre : ([47] : List UInt8).isPrefixOf s.data.toList = decide (s.data.toList.head? = some 47) := by
    cases s.data.toList with
    | nil => rfl
    | cons c r => rw [Bool.eq_iff_iff]; simp [List.isPrefixOf]; exact eq_comm
  rw [hpre] at hp
  by_cases h : s.data.toList.head? = some 47
  · rw [decide_eq_true h] at hp
    have hz : 1 ≤ s.size := by
      rw [size_list]
      cases hl : s.data.toList with
      | nil => rw [hl] at h; cases h
      | cons c r => simp
    have HV := Lib.hid (dots_slash _ h)
    have hw := withoutDots_any (s.extract 1 s.size) w hE (by simp; omega)
    rw [drop_extract] at hw
    rw [← HV.out] at hw
    clear h hpre
    go_enter Tryz.func16, Tryz.ntmps16
    go_wp2_with fail
    refine hp.mono ?_
    clear hp
    rintro e w' ⟨rfl, rfl⟩
    go_wp2_with fail
    refine hw.mono ?_
    clear hw
    rintro e w1 ⟨rfl, b1⟩
    go_wp2
    go_ret
    exact ⟨rfl, b1⟩
  · rw [decide_eq_false h] at hp
    have HV := Lib.hid (dots_else _ h)
    have hcl := clone_any s w (by omega)
    clear h hpre
    go_enter Tryz.func16, Tryz.ntmps16
    go_wp2_with fail
    refine hp.mono ?_
    clear hp
    rintro e w' ⟨rfl, rfl⟩
    go_wp2_with fail
    refine hcl.mono ?_
    clear hcl
    rintro e w1 ⟨rfl, b1⟩
    go_wp2
    go_ret
    exact ⟨by rw [HV.out]; rfl, b1⟩
end Go.Proofs.YtlgggibdgfdmhaaGreatDoor
