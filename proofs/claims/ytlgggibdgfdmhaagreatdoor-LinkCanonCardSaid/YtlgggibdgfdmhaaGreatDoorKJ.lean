/-
  The walks of package link's hexValue, settle, unescape. Conditions: texts of at most a million bytes.
-/
import Derived.Test.YtlgggibdgfdmhaaGreatDoorKH
import Derived.RegionTactic
namespace Go.Proofs.YtlgggibdgfdmhaaGreatDoor
open Go.RowKit
open Go.Lib

set_option maxRecDepth 100000 in
theorem hexValue_any (c : UInt8) (w : World) (h : hexB c = true) : Calls Tryz.prog 94 #[.int .u8 c.toNat] w fun e w' => e = .returned (.int .u8 (hexN c)) ∧ w = w' := by
  have hd := isDigit_any c w
  rw [hexB_n, decide_eq_true_eq] at h
  rw [dgtB_n] at hd
  have HN := Lib.hid (show hexN c = if 48 ≤ c.toNat ∧ c.toNat ≤ 57 then c.toNat - 48 else if 97 ≤ c.toNat then c.toNat - 87 else c.toNat - 55 from rfl)
  have hlt := UInt8.toNat_lt c
  generalize hexN c = v at *
  generalize c.toNat = n at *
  by_cases h1 : 48 ≤ n ∧ n ≤ 57
  · rw [decide_eq_true h1] at hd
    have HV := Lib.hid (show (v : Int) = n - 48 by rw [HN.out, if_pos h1]; omega)
    obtain ⟨a, b⟩ := h1
    go_enter Tryz.func94, Tryz.ntmps94
    go_wp2_with fail
    refine hd.mono ?_
    clear hd
    rintro e w' ⟨rfl, rfl⟩
    go_wp2
    go_ret
    exact ⟨ret_int HV.out.symm, rfl⟩
  · rw [decide_eq_false h1] at hd
    by_cases h2 : 97 ≤ n
    · have HV := Lib.hid (show (v : Int) = n - 97 + 10 by rw [HN.out, if_neg h1, if_pos h2]; omega)
      have h3 : n ≤ 102 := by omega
      clear h h1
      go_enter Tryz.func94, Tryz.ntmps94
      go_wp2_with fail
      refine hd.mono ?_
      clear hd
      rintro e w' ⟨rfl, rfl⟩
      go_wp2
      go_ret
      exact ⟨ret_int HV.out.symm, rfl⟩
    · have HV := Lib.hid (show (v : Int) = n - 65 + 10 by rw [HN.out, if_neg h1, if_neg h2]; omega)
      have h3 : 65 ≤ n := by omega
      have h4 : n ≤ 70 := by omega
      clear h h1
      go_enter Tryz.func94, Tryz.ntmps94
      go_wp2_with fail
      refine hd.mono ?_
      clear hd
      rintro e w' ⟨rfl, rfl⟩
      go_wp2
      go_ret
      exact ⟨ret_int HV.out.symm, rfl⟩
def digU : ByteArray := ⟨#[48, 49, 50, 51, 52, 53, 54, 55, 56, 57, 65, 66, 67, 68, 69, 70]⟩
theorem digU_size : digU.size = 16 := rfl
theorem digU_at : ∀ (d : Nat) (h : d < digU.size), digU[d] = hU d := by
  intro d h
  rw [digU_size] at h
  match d, h with
  | 0, _ => rfl
  | 1, _ => rfl
  | 2, _ => rfl
  | 3, _ => rfl
  | 4, _ => rfl
  | 5, _ => rfl
  | 6, _ => rfl
  | 7, _ => rfl
  | 8, _ => rfl
  | 9, _ => rfl
  | 10, _ => rfl
  | 11, _ => rfl
  | 12, _ => rfl
  | 13, _ => rfl
  | 14, _ => rfl
  | 15, _ => rfl
  | d + 16, h => exact absurd h (by omega)
theorem digU_run (k : IntKind) (W : World) (x : Int) (d : Nat) (hx0 : x = d) (hd : d < 16) : (Instr.index 9 (.string ⟨#[48, 49, 50, 51, 52, 53, 54, 55, 56, 57, 65, 66, 67, 68, 69, 70]⟩) (.int k x)).run Tryz.prog W = .ok (.int .u8 (hU d).toNat) W := by
  subst hx0
  have h := run_index_string (P := Tryz.prog) W 9 digU k (d : Int) Tryz.underlying9
  rw [dif_pos ⟨by omega, by rw [digU_size]; omega⟩] at h
  have e : digU[((d : Int)).toNat]'(by rw [digU_size]; omega) = hU d := digU_at d (by rw [digU_size]; exact hd)
  rw [e] at h
  exact h
theorem or_hex (a b : Nat) (ha : a < 16) (hb : b < 16) : bits BinOp.or IntKind.u8 ((a : Int) * 16) (b : Int) = ((a * 16 + b : Nat) : Int) := by
  have : ∀ x y : Fin 16, bits BinOp.or IntKind.u8 ((x.1 : Int) * 16) (y.1 : Int) = ((x.1 * 16 + y.1 : Nat) : Int) := by decide +kernel
  exact this ⟨a, ha⟩ ⟨b, hb⟩
theorem byteAt_n (y z : UInt8) (hy : hexN y < 16) (hz : hexN z < 16) : (byteAt [y, z]).toNat = hexN y * 16 + hexN z := by
  show (UInt8.ofNat (hexN y * 16 + hexN z)).toNat = _
  have h : hexN y * 16 + hexN z < 2 ^ 8 := by omega
  exact Nat.mod_eq_of_lt h
theorem own_stored {w : World} {base g cap m : Nat} {p : List UInt8} {x y z : UInt8} (h : OwnB w base (.slice (some ⟨g, 0, none⟩) (m + 3) cap) (p ++ [x, y, z])) (hm : p.length = m) (a c : UInt8) :
    OwnB ((w.setCell ⟨g, m + 1, none⟩ (.int .u8 (a.toNat : Int))).setCell ⟨g, m + 2, none⟩ (.int .u8 (c.toNat : Int))) base (.slice (some ⟨g, 0, none⟩) (m + 3) cap) (p ++ [x, a, c]) ∧
    OwnB ((w.setCell ⟨g, m + 2, none⟩ (.int .u8 (c.toNat : Int))).setCell ⟨g, m + 1, none⟩ (.int .u8 (a.toNat : Int))) base (.slice (some ⟨g, 0, none⟩) (m + 3) cap) (p ++ [x, a, c]) ∧ base ≤ g := by
  have hl : (p ++ [x, y, z]).length = m + 3 := by simp [hm]
  have hl2 : (p ++ [x, a, c]).length = m + 3 := by simp [hm]
  unfold OwnB at h ⊢
  rw [hl] at h
  rw [hl2]
  have hp : (byteCells p).length = m := by rw [byteCells_length, hm]
  have e : byteCells (p ++ [x, y, z]) = byteCells p ++ [.int .u8 (x.toNat : Int), .int .u8 (y.toNat : Int), .int .u8 (z.toNat : Int)] := by rw [byteCells_append]; rfl
  have e2 : byteCells (p ++ [x, a, c]) = byteCells p ++ [.int .u8 (x.toNat : Int), .int .u8 (a.toNat : Int), .int .u8 (c.toNat : Int)] := by rw [byteCells_append]; rfl
  rw [e] at h
  rw [e2]
  have s1 := (World.ownsRow.stored h (m + 1) (.int .u8 (a.toNat : Int))).1
  have s2 := (World.ownsRow.stored s1 (m + 2) (.int .u8 (c.toNat : Int))).1
  have t1 := (World.ownsRow.stored h (m + 2) (.int .u8 (c.toNat : Int))).1
  have t2 := (World.ownsRow.stored t1 (m + 1) (.int .u8 (a.toNat : Int))).1
  rw [List.set_append_right _ _ (by omega), hp, show m + 1 - m = 1 by omega] at s1 s2
  rw [List.set_append_right _ _ (by omega), hp, show m + 2 - m = 2 by omega] at s2
  rw [List.set_append_right _ _ (by omega), hp, show m + 2 - m = 2 by omega] at t1 t2
  rw [List.set_append_right _ _ (by omega), hp, show m + 1 - m = 1 by omega] at t2
  exact ⟨s2, t2, (World.ownsRow.lt h g rfl).1⟩
def sliceN (v : Value) : Nat := match v with
  | .slice _ n _ => n
  | _ => 0
def SRel (w : World) (base : Nat) (b0 : List UInt8) (v : Value) (wr : World) : Prop :=
  ∃ b, OwnB wr base v b ∧ Below base w wr ∧ settleL b = settleL b0 ∧ b.length ≤ b0.length
def SetOut (w : World) (base : Nat) (b : List UInt8) (e : Ending) (w' : World) : Prop :=
  ∃ v, e = .returned v ∧ OwnB w' base v b ∧ Below base w w'
theorem own_conv3 {w : World} {base g cap m : Nat} {p : List UInt8} {x y z : UInt8} (h : OwnB w base (.slice (some ⟨g, 0, none⟩) (m + 3) cap) (p ++ [x, y, z])) (hm : p.length = m) (C : Nat) :
    (convert 43 9 (.slice (some ⟨g, m, none⟩) 3 C)).run Tryz.prog w = .ok (.string (bs [x, y, z])) w ∧ w.cell? ⟨g, m + 1, none⟩ = some (.int .u8 (y.toNat : Int)) ∧ w.cell? ⟨g, m + 2, none⟩ = some (.int .u8 (z.toNat : Int)) := by
  have hl : (p ++ [x, y, z]).length = m + 3 := by simp [hm]
  rw [← hl] at h
  have hc := fun j hj => own_cell h j hj
  have h0 := hc m (by omega)
  have h1 := hc (m + 1) (by omega)
  have h2 := hc (m + 2) (by omega)
  rw [show (p ++ [x, y, z])[m]'(by omega) = x by rw [List.getElem_append_right (by omega)]; simp [hm]] at h0
  rw [show (p ++ [x, y, z])[m + 1]'(by omega) = y by rw [List.getElem_append_right (by omega)]; simp [hm]] at h1
  rw [show (p ++ [x, y, z])[m + 2]'(by omega) = z by rw [List.getElem_append_right (by omega)]; simp [hm]] at h2
  refine ⟨?_, h1, h2⟩
  refine run_convert_bytes_back w 43 9 5 ⟨g, m, none⟩ C [x, y, z] Tryz.underlying43 Tryz.underlying5 Tryz.underlying9 fun j hj => ?_
  have e : (⟨g, m, none⟩ : Addr).add j = ⟨g, m + j, none⟩ := by unfold Addr.add; split <;> simp_all
  rw [e]
  match j, hj with
  | 0, _ => exact h0
  | 1, _ => exact h1
  | 2, _ => exact h2
set_option maxRecDepth 100000 in
set_option maxHeartbeats 1000000 in
theorem settle_any (v0 : Value) (b0 : List UInt8) (w : World) (base : Nat) (h : OwnB w base v0 b0) (hl : b0.length ≤ 1000000) (hbase : base ≤ w.heap.size) : Calls Tryz.prog 79 #[v0] w (SetOut w base (settleL b0)) := by
  go_enter Tryz.func79, Tryz.ntmps79
  go_wp2
  go_loopw [0] (fun v wr => SRel w base b0 v wr) (fun v _ => sliceN v)
  case atStart => exact ⟨b0, h, Below.refl _ _, rfl, Nat.le_refl _⟩
  case round =>
    clear h
    obtain ⟨b, hown, hbw, hse, hbl⟩ := hrel
    have HSE := Lib.hid hse
    have hbsz := hbw.size
    clear hse
    by_cases hn3 : b.length < 3
    · have HV := Lib.hid (show b = settleL b0 by rw [← HSE.out, settle_no (by unfold endB; rw [decide_eq_false (by omega)]; rfl)])
      rcases own_form hown with ⟨rfl, rfl⟩ | ⟨g, cap, rfl, hc, _⟩
      · go_wp2
        go_ret
        exact ⟨_, rfl, by rw [← HV.out]; exact hown, hbw⟩
      · generalize hn : b.length = n at *
        have HN := Lib.hid hn
        clear hn
        go_wp2
        all_goals first | (exfalso; omega) | (go_ret; exact ⟨_, rfl, by rw [← HV.out, ← HN.out]; rw [HN.out]; exact hown, hbw⟩)
    · obtain ⟨p, x, y, z, rfl⟩ : ∃ p x y z, b = p ++ [x, y, z] := by
        have hd : (b.drop (b.length - 3)).length = 3 := by rw [List.length_drop]; omega
        have e := List.take_append_drop (b.length - 3) b
        match hq : b.drop (b.length - 3), hd with
        | [x, y, z], _ => exact ⟨_, x, y, z, by rw [hq] at e; exact e.symm⟩
      clear hn3
      obtain ⟨ee1, ee2, ee3⟩ := end_snoc3 p x y z
      rcases own_form hown with ⟨_, hnil⟩ | ⟨g, cap, rfl, hcap, hcm⟩
      · simp at hnil
      obtain ⟨m, hm⟩ : ∃ m, p.length = m := ⟨_, rfl⟩
      have hml : (p ++ [x, y, z]).length = m + 3 := by simp [hm]
      rw [hml] at hown hcap hbl ⊢
      unfold maxLen at hcm
      obtain ⟨_, cy, cz⟩ := own_conv3 hown hm 0
      have hcv := fun C => (own_conv3 hown hm C).1
      have hes := isEscape_any (bs [x, y, z]) wr (by rw [bs_size]; simp)
      rw [bs_list, isEsc3, ← ee1] at hes
      have HM := Lib.hid hm
      have E2 := Lib.hid ee2
      have E3 := Lib.hid ee3
      clear hm hml ee2 ee3
      cases hend : endB (p ++ [x, y, z]) with
      | false =>
        rw [hend] at hes
        have HV := Lib.hid (show p ++ [x, y, z] = settleL b0 by rw [← HSE.out, settle_no hend])
        clear hend ee1
        go_wp2_with fail
        refine hes.mono ?_
        clear hes
        rintro e w2 ⟨rfl, rfl⟩
        go_wp2
        go_ret
        exact ⟨_, rfl, by rw [← HV.out]; exact hown, hbw⟩
      | true =>
        rw [hend] at hes ee1
        have HEN := Lib.hid hend
        clear hend
        have hyz : hexB y = true ∧ hexB z = true := by
          have := ee1.symm
          simp at this
          exact this.2
        obtain ⟨hy, hz⟩ := hyz
        have hvy := fun W => (hexValue_any y W hy).mono (fun e w' (h : e = _ ∧ W = w') => (⟨h.1, h.2.symm⟩ : _ ∧ w' = W))
        have hvz := fun W => (hexValue_any z W hz).mono (fun e w' (h : e = _ ∧ W = w') => (⟨h.1, h.2.symm⟩ : _ ∧ w' = W))
        have ly := hexN_lt y hy
        have lz := hexN_lt z hz
        clear ee1 hy hz
        have hC := byteAt_n y z ly lz
        have hor := or_hex (hexN y) (hexN z) ly lz
        rw [← hC] at hor
        have HE : Hid (endC (p ++ [x, y, z]) = byteAt [y, z]) := E2
        have hstd := fun W => stands_any (byteAt [y, z]) W
        have hclt := UInt8.toNat_lt (byteAt [y, z])
        clear hC
        generalize byteAt [y, z] = C at *
        generalize hexN y = ny at *
        generalize hexN z = nz at *
        have e1 : IntKind.i64.wrap ((m : Int) + 1) = (m : Int) + 1 := IntWalk.i64_in _ (by omega)
        have e2 : IntKind.i64.wrap ((m : Int) + 2) = (m : Int) + 2 := IntWalk.i64_in _ (by omega)
        have e3 : (0 : Int) ≤ (m : Int) + 1 := by omega
        have e4 : (0 : Int) ≤ (m : Int) + 2 := by omega
        have e5 : ((m : Int) + 1).toNat = m + 1 := by omega
        have e6 : ((m : Int) + 2).toNat = m + 2 := by omega
        have e7 : (m : Int) + 1 < (m : Int) + 3 := by omega
        have e8 : (m : Int) + 2 < (m : Int) + 3 := by omega
        have hm3 : m + 3 ≤ cap := hcap
        go_wp2_with fail
        refine hes.mono ?_
        clear hes
        rintro e w2 ⟨rfl, rfl⟩
        go_wp2_with fail
        go_quiet ((first | (go_at_call 94; with_reducible exact Calls.quiet_of_same (hvy _)) | (go_at_call 94; with_reducible exact Calls.quiet_of_same (hvz _))))
        have hown2 := hown.below (below_drewN (Below.refl _ wr) nq)
        have B2 := below_drewN hbw nq
        have hz2 : base ≤ (wr.drewN nq).heap.size := by have := B2.size; omega
        clear hown hbw hvy hvz hcv cy cz hor e1 e2 e5 e6
        generalize wr.drewN nq = wq at *
        have hst := hstd wq
        clear hstd
        cases hsb : stays C with
        | true =>
          rw [hsb] at hst
          have HV := Lib.hid (show settleL (p ++ [C]) = settleL b0 by rw [← HSE.out, settle_in HEN.out (by rw [HE.out]; exact hsb), E3.out, HE.out])
          clear hsb
          have hown3 : OwnB wq base (.slice (some ⟨g, 0, none⟩) m cap) p := by
            have hh : OwnB wq base (.slice (some ⟨g, 0, none⟩) (p ++ [x, y, z]).length cap) (p ++ [x, y, z]) := by
              rw [show (p ++ [x, y, z]).length = m + 3 by rw [List.length_append, HM.out]; rfl]; exact hown2
            have := own_take hh m (by rw [List.length_append, HM.out]; omega)
            rwa [show (p ++ [x, y, z]).take m = p by rw [← HM.out, List.take_left]] at this
          clear hown2
          go_wp2_with fail
          refine hst.mono ?_
          clear hst
          rintro e w2 ⟨rfl, rfl⟩
          go_wp2_with (at_builtin; refine appB rfl _ _ rfl wq w base base _ p [C] _ 1 rfl rfl rfl (by exact hown3) rfl (by rw [HM.out]; omega) (by omega) (Nat.le_refl _) B2 ?_)
          intro v' w3 hown4 B3
          have hsn : sliceN v' = m + 1 := by
            rcases own_form hown4 with ⟨_, hx⟩ | ⟨g', cap', rfl, _, _⟩
            · simp at hx
            · show (p ++ [C]).length = _; rw [List.length_append, HM.out]; rfl
          have hbl2 : (p ++ [C]).length ≤ b0.length := by rw [List.length_append, HM.out]; simp; omega
          go_wp2
          go_roundw
          case rel => exact ⟨p ++ [C], hown4, B3, HV.out, hbl2⟩
          case measure => rw [hsn]; simp [sliceN]
        | false =>
          rw [hsb] at hst
          have HV := Lib.hid (show p ++ [x, hU (C.toNat / 16), hU (C.toNat % 16)] = settleL b0 by
            have hx37 : x = 37 := by
              have := (end_snoc3 p x y z).1
              rw [HEN.out] at this
              have := this.symm
              simp at this
              exact this.1
            rw [← HSE.out, settle_out HEN.out (by rw [HE.out]; exact hsb), E3.out, HE.out, hx37]
            unfold pct1
            rw [if_neg (by simp [hsb])])
          clear hsb
          obtain ⟨_, cy, cz⟩ := own_conv3 hown2 HM.out 0
          have hfr : ∀ j, wq.frozen? ⟨g, j, none⟩ = false := by
            intro j
            rcases hown2.2 with ⟨h1, _⟩ | ⟨g', cap', cur, h1, _, h3, _⟩
            · cases h1
            · simp only [Value.slice.injEq, Option.some.injEq, Addr.mk.injEq, and_true] at h1
              obtain ⟨rfl, _⟩ := h1
              simp [World.frozen?, h3]
          have f1 := hfr (m + 1)
          have f2 := hfr (m + 2)
          obtain ⟨o1, o2, hgb⟩ := own_stored hown2 HM.out (hU (C.toNat / 16)) (hU (C.toNat % 16))
          clear hfr hown2
          have hd1 : (C.toNat : Int) / 16 = ((C.toNat / 16 : Nat) : Int) := by omega
          have hq : (C.toNat : Int) % 16 = ((C.toNat % 16 : Nat) : Int) := by omega
          have i1 := fun W => digU_run .u8 W _ _ hd1 (by have : C.toNat < 256 := hclt; omega)
          have i2 := fun W => digU_run .u8 W _ _ hq (by omega)
          clear hd1 hq
          generalize hU (C.toNat / 16) = u1 at *
          generalize hU (C.toNat % 16) = u2 at *
          have e1 : IntKind.i64.wrap ((m : Int) + 1) = (m : Int) + 1 := IntWalk.i64_in _ (by omega)
          have e2 : IntKind.i64.wrap ((m : Int) + 2) = (m : Int) + 2 := IntWalk.i64_in _ (by omega)
          have e5 : ((m : Int) + 1).toNat = m + 1 := by omega
          have e6 : ((m : Int) + 2).toNat = m + 2 := by omega
          go_wp2_with fail
          refine hst.mono ?_
          clear hst
          rintro e w2 ⟨rfl, rfl⟩
          go_wp2_with fail
          go_region
          all_goals
            clear e1 e2 e5 e6 i1 i2
            go_wp2
            go_ret
            first
              | exact ⟨_, rfl, by rw [← HV.out]; exact o1, (B2.drew.setCell hgb _).setCell hgb _⟩
              | exact ⟨_, rfl, by rw [← HV.out]; exact o2, (B2.drew.setCell hgb _).setCell hgb _⟩
set_option maxRecDepth 100000 in
set_option maxHeartbeats 1000000 in
theorem unescape_any (s : ByteArray) (w : World) (hs : s.size ≤ 1000000) : Calls Tryz.prog 61 #[.string s] w fun e w' => e = .returned (.string (bs (unescL [] s.data.toList))) ∧ Below w.heap.size w w' := by
  have HL := Lib.hid (size_list s)
  go_enter Tryz.func61, Tryz.ntmps61
  go_wp2
  go_loopw [3, 7] (fun v i wr => ∃ (k : Nat) (b : List UInt8), k ≤ s.size ∧ i = .int .i64 k ∧ OwnB wr w.heap.size v b ∧ Below w.heap.size w wr ∧ b.length ≤ k ∧ Hid (b = unescL [] (s.data.toList.take k))) (fun _ i _ => s.size - (RowKit.intOf i).toNat)
  case atStart => exact ⟨0, [], Nat.zero_le _, rfl, ownB_nil _ _, Below.refl _ _, by simp, by show _ = _; rfl⟩
  case round =>
    obtain ⟨k, b, hk, rfl, hown, hbw, hbl, hac⟩ := hrel
    have hbsz := hbw.size
    by_cases hlt : k < s.size
    · have HT := Lib.hid (take_snoc s k hlt)
      have HV := Lib.hid (show settleL (b ++ [s[k]]) = unescL [] (s.data.toList.take (k + 1)) by rw [HT.out, hac.out]; unfold unescL; rw [List.foldl_append]; rfl)
      have hsl := settle_length (b ++ [s[k]])
      go_wp2_with (at_builtin; refine appB rfl _ _ rfl wr w w.heap.size w.heap.size _ b [s[k]] _ 1 rfl rfl rfl (by exact hown) rfl (by omega) (by omega) (Nat.le_refl _) hbw ?_)
      intro v' w2 hown2 B2
      have hz2 := B2.size
      clear hown hbw
      have hse := settle_any v' _ w2 w.heap.size hown2 (by simp; omega) (by omega)
      rw [HV.out] at hse hsl
      clear hown2
      go_wp2_with fail
      refine hse.mono ?_
      clear hse
      rintro e w3 ⟨v3, rfl, hown3, b3⟩
      have B3 := B2.trans b3
      go_wp2
      go_roundw
      case rel => exact ⟨k + 1, _, by omega, by go_num, hown3, B3, by simp at hsl; omega, by show _ = _; rfl⟩
      case measure => simp [RowKit.intOf]; omega
    · have hcv := hown.conv
      have HE := Lib.hid (show b = unescL [] s.data.toList by have := hac.out; rwa [List.take_of_length_le (by rw [← HL.out]; omega)] at this)
      go_wp2
      go_ret
      exact ⟨by rw [← HE.out]; rfl, hbw⟩
end Go.Proofs.YtlgggibdgfdmhaaGreatDoor
