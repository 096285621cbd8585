/-
  The walk of the law VfsKeeps. Conditions: paths of a possible size.
-/
import Derived.Test.YtbodkjifpmencaaGreatVKa
import Derived.Deep.CutBlock
import Derived.Deep.DeepCutAuto
import Derived.Deep.RegionHeld3
import Derived.BigQuiet
namespace Go.Proofs.YtbodkjifpmencaaGreat
open Go.RowKit
open Go.Lib

theorem far_below2 {S : Nat → Prop} {w w3 W : World} (hU : Below w.heap.size w w3) (ho : Off (fun b => ¬ S b) w3 W) (hS : ∀ b, b < w.heap.size → S b) : Below w.heap.size w W :=
  hU.trans ⟨ho.os, ho.tape, ho.output, ho.size, fun k hk => ho.block k (Nat.lt_of_lt_of_le hk hU.size) (fun h => h (hS k hk))⟩
theorem MineT.side2 {S T : Nat → Prop} {w0 W : World} {D : Nat} {q : Q} (M : MineT S T w0 D q W) : MineS (fun b => S b ∨ T b) W D q W := M.1
theorem MineT.lt2 {S T : Nat → Prop} {w0 W : World} {D : Nat} {q : Q} (M : MineT S T w0 D q W) : ∀ b, S b ∨ T b → b < W.heap.size := M.2.2.1
theorem path_ne {p : ByteArray} (h : (p.toList == ([122, 47, 107, 101, 112, 116] : List UInt8)) = false) : p.data.toList ≠ keptP := fun e => by
  rw [Lib.toList_data, e] at h
  exact absurd h (by decide)
set_option maxRecDepth 100000 in
set_option maxHeartbeats 2000000 in
theorem law_keeps_big (lb : Nat) (Ab Ak : Option Addr) (v : Value) (cb ck nk : Nat) (w : World) (h : 2000 < lb ∨ (lb ≤ 2000 ∧ 100 < nk)) :
    Calls Tryz.prog 4 #[.slice Ab lb cb, v, .slice Ak nk ck] w fun e w' => e = .returned (.bool true) ∧ Below w.heap.size w w' := by
  rcases h with h | ⟨h1, h2⟩
  · have hi : (2000 : Int) < (lb : Int) := by omega
    go_enter Tryz.func4, Tryz.ntmps4
    go_wp2_with (go_at_call 6; (with_reducible refine (first_any _).mono ?_); rintro e w1 ⟨rfl, b1⟩)
    go_ret
    exact ⟨rfl, b1⟩
  · have hi : ¬ ((2000 : Int) < (lb : Int)) := by omega
    have hj : (100 : Int) < (nk : Int) := by omega
    go_enter Tryz.func4, Tryz.ntmps4
    go_wp2_with (go_at_call 6; (with_reducible refine (first_any _).mono ?_); rintro e w1 ⟨rfl, b1⟩)
    go_ret
    exact ⟨rfl, b1⟩
set_option maxRecDepth 100000 in
set_option maxHeartbeats 20000000 in
theorem law_keeps (lb : Bs) (os : List OpR) (ks : List Int) (Ab A Ak : Option Addr) (cb c ck nb n nk : Nat) (w : World) (hnb : lb.length = nb) (hb2 : nb ≤ 2000) (hB : RB w Ab lb) (hBl : ∀ x, aBlock Ab = some x → x < w.heap.size) (hn : os.length = n) (hn63 : n ≤ 9223372036854775807) (hO : RO w A os) (hok : ∀ o ∈ os, OpOk w o) (hps : ∀ o ∈ os, o.path.size ≤ 281474976710656 ∧ o.tgt.size ≤ 281474976710656) (hnk : ks.length = nk) (hk1 : nk ≤ 100) (hck : nk ≤ ck) (hK : RI w Ak ks) (hRg : Range ks) :
    Calls Tryz.prog 4 #[.slice Ab nb cb, .slice A n c, .slice Ak nk ck] w fun e w' => e = .returned (.bool true) ∧ Below w.heap.size w w' := by
  have HO := Lib.hid hO
  have HOK := Lib.hid hok
  have HPS := Lib.hid hps
  have HN := Lib.hid hn
  have HNB := Lib.hid hnb
  have HNK := Lib.hid hnk
  have HBl := Lib.hid hBl
  have HRB := Lib.hid (fun W (h : Below w.heap.size w W) => RB.off hB ((⟨h.os, h.tape, h.output, h.size, fun k hk _ => h.block k hk⟩ : Off (fun _ => False) w W)) (fun _ _ h => h))
  have HK := Lib.hid hK
  have HRG := Lib.hid hRg
  have hl2 : lb.length ≤ 2000 := by omega
  have HW := Lib.hid (show writeQ (qNew 1048576) (ByteArray.mk #[122, 47, 107, 101, 112, 116]).data.toList lb = (0, q1K lb) from keeps_w lb hl2)
  have HSY := Lib.hid (show syncQ (q1K lb) (ByteArray.mk #[122, 47, 107, 101, 112, 116]).data.toList = (0, q2K lb) from keeps_s lb)
  have HSD := Lib.hid (show syncDirQ (q2K lb) (ByteArray.mk #[122]).data.toList = (0, q3K lb) from keeps_d lb)
  have H1 := Lib.hid (q1_small lb hl2)
  have H2 := Lib.hid (q2_small lb hl2)
  have H3 := Lib.hid (q3_small lb hl2)
  clear hO hok hps hn hnb hnk hBl hB hK hRg
  go_enter Tryz.func4, Tryz.ntmps4
  go_upto_block 0 with (first
    | (go_at_call 6; (with_reducible refine (first_any _).mono ?_); rintro e w1 ⟨rfl, b1⟩)
    | (go_at_call 7; (with_reducible refine (mine_new (w0 := w) 1048576 _ b1).mono ?_); rintro e w2 ⟨D, rfl, M0⟩; clear b1)
    | (go_at_call 18; refine (mine_write M0 (Below.refl _ _) (Small.new 1048576 (by decide)) ⟨#[122, 47, 107, 101, 112, 116]⟩ (by decide) lb nb HNB.out Ab cb (HRB.out _ M0.under) (fun _ x hx => .inl (HBl.out x hx)) (by omega) HW.out).mono ?_; rintro e w3 ⟨rfl, M1⟩; clear M0)
    | (go_at_call 19; refine (mine_sync M1 H1.out (by decide) ⟨#[122, 47, 107, 101, 112, 116]⟩ (by decide) HSY.out).mono ?_; rintro e w4 ⟨rfl, M2⟩; clear M1)
    | (go_at_call 20; refine (mine_syncDir M2 H2.out (by decide) ⟨#[122]⟩ (by decide) HSD.out).mono ?_; rintro e w5 ⟨rfl, M3⟩; clear M2))
  obtain ⟨S, hS⟩ : ∃ S : Nat → Prop, (fun b => b < w.heap.size) = S := ⟨_, rfl⟩
  have hM : MineS S w5 D (q3K lb) w5 := by rw [← hS]; exact (M3.side (Below.refl _ _)).less (fun b h => .inl h)
  have HSW : Hid (∀ b, b < w.heap.size → S b) := Lib.hid (fun b hb => by rw [← hS]; exact hb)
  have HU2 := Lib.hid M3.under
  have HLT : Hid (∀ b, S b → b < w5.heap.size) := Lib.hid (fun b hb => by rw [← hS] at hb; have := HU2.out.size; omega)
  have HM := Lib.hid hM
  have hRV : ∀ W, Off (fun b => ¬ S b) w5 W → RB W Ab lb := fun W ho => RB.off (HRB.out w5 HU2.out) ho (fun b hb h => h (HSW.out b (HBl.out b hb)))
  have HRV := Lib.hid hRV
  have hcb : ∀ W, Off (fun b => ¬ S b) w5 W → (convert 28 9 (.slice Ab nb cb)).run Tryz.prog W = .ok (.string (bs lb)) W := fun W ho => conv_slice cb HNB.out (hRV W ho)
  obtain ⟨LB, hLB⟩ : ∃ x, bs lb = x := ⟨_, rfl⟩
  rw [hLB] at hcb
  have HLBE := Lib.hid hLB
  have HCB := Lib.hid hcb
  have te : (LB.toList == LB.toList) = true := by simp
  clear hM M3 hS hRV hcb hLB HW HSY HSD H1 H2
  go_cut [41] (fun _ wx => ∃ q, Small 130000 q ∧ Held keptP 0 lb q ∧ MineS S w5 D q wx)
  case first =>
    go_wp2_with fail
    go_loopw [41] (fun i wr => ∃ (k : Nat) (q : Q), k ≤ n ∧ k ≤ 60 ∧ i = .int .i64 (k : Int) ∧ Hid (Small (2003 * (k + 1)) q ∧ Held keptP 0 lb q) ∧ Hid (MineS S w5 D q wr)) (fun i _ => n - (RowKit.intOf i).toNat)
    case atStart => exact ⟨0, q3K lb, Nat.zero_le _, by omega, rfl, Lib.hid ⟨H3.out, held_start lb⟩, HM⟩
    case round =>
      obtain ⟨k, q, hk, hk60, rfl, HSc, HMk⟩ := hrel
      by_cases hlt : k < n
      · have hkl : k < os.length := by rw [HN.out]; exact hlt
        obtain ⟨b, off, hAe, hbl, hcs⟩ := HO.out (by omega)
        have hO := HOK.out os[k] (List.getElem_mem hkl)
        have hP := HPS.out os[k] (List.getElem_mem hkl)
        obtain ⟨o, ho⟩ : ∃ o, os[k] = o := ⟨_, rfl⟩
        have hc := hcs k hkl
        rw [ho] at hc hO hP
        have hat : ∀ i v, i < 6 → (opCells o)[i]? = some v → wr.cell? ⟨b, off + k * 6 + i, none⟩ = some v := fun i v hi hv =>
          HMk.out.off.cell ((⟨HU2.out.os, HU2.out.tape, HU2.out.output, HU2.out.size, fun k hk _ => HU2.out.block k hk⟩ : Off (fun _ => False) w w5).cell ((hc i hi).trans hv) (fun h => h)) (fun h => h (HSW.out b hbl))
        have d0 : wr.cell? ⟨b, off + k * 6, none⟩ = some (.int .i64 o.kind) := hat 0 _ (by decide) rfl
        have d1 : wr.cell? ⟨b, off + k * 6 + 1, none⟩ = some (.string o.path) := hat 1 _ (by decide) rfl
        have d2 : wr.cell? ⟨b, off + k * 6 + 2, none⟩ = some (.string o.tgt) := hat 2 _ (by decide) rfl
        have d3 : wr.cell? ⟨b, off + k * 6 + 3, none⟩ = some (.slice o.bA o.b.length o.bc) := hat 3 _ (by decide) rfl
        have d4 : wr.cell? ⟨b, off + k * 6 + 4, none⟩ = some (.int .i64 o.n) := hat 4 _ (by decide) rfl
        have d5 : wr.cell? ⟨b, off + k * 6 + 5, none⟩ = some (.slice o.kA o.ks.length o.kc) := hat 5 _ (by decide) rfl
        subst hAe
        have HOO := Lib.hid hO
        have HP := Lib.hid hP
        clear hat hc hcs hO hP ho
        obtain ⟨no, hno⟩ : ∃ x, o.b.length = x := ⟨_, rfl⟩
        obtain ⟨mo, hmo⟩ : ∃ x, o.ks.length = x := ⟨_, rfl⟩
        rw [hno] at d3
        rw [hmo] at d5
        by_cases hall : k < 60 ∧ no ≤ 2000 ∧ mo ≤ 100
        · obtain ⟨t1, t2, t3⟩ := hall
          obtain ⟨Wb, hWb⟩ : ∃ V, wr.alloc (.cells #[.int .i64 o.kind, .string o.path, .string o.tgt, .slice o.bA no o.bc, .int .i64 o.n, .slice o.kA mo o.kc] 31) = V := ⟨_, rfl⟩
          have hbx := Blk.new (.cells #[.int .i64 o.kind, .string o.path, .string o.tgt, .slice o.bA no o.bc, .int .i64 o.n, .slice o.kA mo o.kc] 31 (0, 0)) wr
          have hb1 : Below wr.heap.size wr Wb := by rw [← hWb]; exact (Below.refl _ _).alloc (Nat.le_refl _) _
          have hzb : Wb.heap.size = wr.heap.size + 1 := by rw [← hWb]; simp
          rw [hWb] at hbx
          have hMb := (MineT.of HLT.out HMk.out).new hb1
          obtain ⟨B, hBB⟩ : ∃ B, wr.heap.size = B := ⟨_, rfl⟩
          rw [hBB] at hMb hbx hzb
          obtain ⟨T0, hT0⟩ : ∃ T0 : Nat → Prop, (fun b => False ∨ (B ≤ b ∧ b < Wb.heap.size)) = T0 := ⟨_, rfl⟩
          have hT0B : T0 B := by rw [← hT0]; exact .inr ⟨Nat.le_refl _, by omega⟩
          rw [hT0] at hMb
          have f0 : Wb.cell? ⟨B, 0, none⟩ = some (.int .i64 o.kind) := hbx.cell 0
          have f1 : Wb.cell? ⟨B, 1, none⟩ = some (.string o.path) := hbx.cell 1
          have f2 : Wb.cell? ⟨B, 2, none⟩ = some (.string o.tgt) := hbx.cell 2
          have f3 : Wb.cell? ⟨B, 3, none⟩ = some (.slice o.bA no o.bc) := hbx.cell 3
          have f5 : Wb.cell? ⟨B, 5, none⟩ = some (.slice o.kA mo o.kc) := hbx.cell 5
          have hskip : MineS S w5 D q Wb := hMb.done
          have HSKIP := Lib.hid hskip
          have hkq : kindQ o = (IntKind.u64.wrap o.kind).tmod 8 := rfl
          by_cases hp1 : (o.path.toList == ([122, 47, 107, 101, 112, 116] : List UInt8)) = true
          · go_wp2_with fail
            go_roundw
            case rel => exact ⟨k + 1, q, by omega, by omega, by go_num, Lib.hid ⟨HSc.out.1.mono (by omega), HSc.out.2⟩, HSKIP⟩
            case measure => simp [RowKit.intOf]; omega
          · have hp1f : (o.path.toList == ([122, 47, 107, 101, 112, 116] : List UInt8)) = false := by simpa using hp1
            clear hp1
            by_cases hp2 : (o.tgt.toList == ([122, 47, 107, 101, 112, 116] : List UInt8)) = true
            · go_wp2_with fail
              go_roundw
              case rel => exact ⟨k + 1, q, by omega, by omega, by go_num, Lib.hid ⟨HSc.out.1.mono (by omega), HSc.out.2⟩, HSKIP⟩
              case measure => simp [RowKit.intOf]; omega
            · have hp2f : (o.tgt.toList == ([122, 47, 107, 101, 112, 116] : List UInt8)) = false := by simpa using hp2
              clear hp2
              by_cases h6 : kindQ o = 6
              · have hk6 : (IntKind.u64.wrap o.kind).tmod 8 = 6 := by rw [← hkq]; exact h6
                go_wp2_with fail
                go_roundw
                case rel => exact ⟨k + 1, q, by omega, by omega, by go_num, Lib.hid ⟨HSc.out.1.mono (by omega), HSc.out.2⟩, HSKIP⟩
                case measure => simp [RowKit.intOf]; omega
              · have hk6 : ((IntKind.u64.wrap o.kind).tmod 8 == 6) = false := by rw [beq_eq_false_iff_ne, ← hkq]; exact h6
                have hk6b : ¬ (IntKind.u64.wrap o.kind).tmod 8 = 6 := by rw [← hkq]; exact h6
                obtain ⟨FZ, hFZ⟩ : ∃ F : Nat → Prop, (fun b => S b ∨ T0 b) = F := ⟨_, rfl⟩
                have hF : MineS FZ Wb D q Wb := by rw [← hFZ]; exact hMb.side2
                have hltF : ∀ b, FZ b → b < Wb.heap.size := fun b hb => by rw [← hFZ] at hb; exact hMb.lt2 b hb
                have hFS : ∀ b, S b → FZ b := fun b hb => by rw [← hFZ]; exact .inl hb
                have hFB : FZ B := by rw [← hFZ]; exact .inr hT0B
                have hend : ∀ q' W, MineS FZ Wb D q' W → MineS S w5 D q' W := fun q' W M => by rw [← hFZ] at M; exact (hMb.ret M).done
                have hok7 : ∀ W, Off (fun b => ¬ FZ b) Wb W → OpOk W o := fun W ho => HOO.out.off (((⟨HU2.out.os, HU2.out.tape, HU2.out.output, HU2.out.size, fun k hk _ => HU2.out.block k hk⟩ : Off (fun _ => False) w w5).mono (fun _ h => h.elim)).trans (hMb.done.off.trans ho (fun x hx => .inl (fun hs => hx (hFS x hs)))) (fun b hb' => by
                  by_cases hbw : b < w.heap.size
                  · exact absurd (HSW.out b hbw) hb'
                  · exact .inr (by omega))) (fun b _ h => h)
                have hkS : 0 < o.ks.length → ∀ x, aBlock o.kA = some x → FZ x := fun hz x hx => by
                  obtain ⟨b', off', he, hb', _⟩ := HOO.out.ri hz
                  rw [he] at hx
                  have : b' = x := Option.some.inj hx
                  subst this
                  exact hFS _ (HSW.out _ hb')
                have hbS : 0 < o.b.length → ∀ x, aBlock o.bA = some x → FZ x := fun hz x hx => by
                  obtain ⟨b', off', he, hb', _⟩ := HOO.out.rb hz
                  rw [he] at hx
                  have : b' = x := Option.some.inj hx
                  subst this
                  exact hFS _ (HSW.out _ hb')
                have hsm := (small_do HSc.out.1 o).mono (show 2003 * (k + 1) + 3 + o.b.length ≤ 2003 * (k + 2) by omega)
                have hhd := HSc.out.2.do HSc.out.1 o (path_ne hp1f) (path_ne hp2f)
                have hdo : ∀ W8, EmptyD Wb.heap.size W8 → Below Wb.heap.size Wb W8 → Calls Tryz.prog 9 #[.pointer (some ⟨D, 0, none⟩), .pointer (some ⟨Wb.heap.size, 0, none⟩), .agg #[.int .i64 o.kind, .string o.path, .string o.tgt, .slice o.bA no o.bc, .int .i64 o.n, .slice o.kA mo o.kc]] W8 fun e w' => (∃ b, e = .returned (.bool b)) ∧ MineS FZ Wb D (doQ q o) w' := fun W8 hx b8 => by
                  have hM8 := (MineT.of hltF hF).new b8
                  have h := do_any hM8 hx (.inr ⟨Nat.le_refl _, hx.lt⟩) o (hok7 W8 ((Off.of_below b8).mono (fun _ h => h.elim))) (by omega) h6 HSc.out.1 (by omega) HP.out.1 HP.out.2 hbS (by omega) hkS
                  unfold opAgg at h
                  rw [hno, hmo] at h
                  exact h.mono fun e w' ⟨h1, h2⟩ => ⟨h1, h2.done⟩
                obtain ⟨q8, hq8⟩ : ∃ x, doQ q o = x := ⟨_, rfl⟩
                rw [hq8] at hdo hsm hhd
                have hks : ∀ V, Off (fun b => ¬ FZ b) Wb V → V.cell? ⟨B, 0, none⟩ = some (.int .i64 o.kind) ∧ V.cell? ⟨B, 1, none⟩ = some (.string o.path) ∧ V.cell? ⟨B, 2, none⟩ = some (.string o.tgt) ∧ V.cell? ⟨B, 3, none⟩ = some (.slice o.bA no o.bc) ∧ V.cell? ⟨B, 4, none⟩ = some (.int .i64 o.n) ∧ V.cell? ⟨B, 5, none⟩ = some (.slice o.kA mo o.kc) := fun V ho => by
                  have h := ho.blk hbx (fun h => h hFB)
                  exact ⟨h.cell 0, h.cell 1, h.cell 2, h.cell 3, h.cell 4, h.cell 5⟩
                have hrd : ∀ V, MineS FZ Wb D q8 V → Calls Tryz.prog 10 #[.pointer (some ⟨D, 0, none⟩), .string ⟨#[122, 47, 107, 101, 112, 116]⟩] V fun x w' => ∃ A c, x = .returned (.tuple #[.slice A nb c, .int .i64 0]) ∧ OwnB w' V.heap.size (.slice A nb c) lb ∧ Below V.heap.size V w' ∧ MineS FZ Wb D q8 w' := fun V M => by
                  have h := side_readv hltF M hsm (by omega) ⟨#[122, 47, 107, 101, 112, 116]⟩ (by decide) lb 0 hhd.rdB hhd.rdE
                  rw [HNB.out] at h
                  exact h
                have hcv : ∀ V A c, OwnB V 0 (.slice A nb c) lb → (convert 28 9 (.slice A nb c)).run Tryz.prog V = .ok (.string LB) V := fun V A c h => by
                  obtain ⟨A', c', he, _, hR, _⟩ := OwnB.read h
                  injection he with h1 h2 h3
                  rw [← h1] at hR
                  rw [conv_slice c HNB.out hR, HLBE.out]
                have HDO := Lib.hid hdo
                have KS := Lib.hid hks
                have HRD := Lib.hid hrd
                have HCV := Lib.hid hcv
                have HSM := Lib.hid hsm
                have HHD := Lib.hid hhd
                have HEND := Lib.hid hend
                clear hzb hdo hks hrd hcv hsm hhd hend hF hltF hFS hFB hok7 hkS hbS hkq hbx hb1 hMb hT0 hT0B hFZ
                go_upto_region 13 with fail
                go_region_held3 (fun V => V.cell? ⟨B, 0, none⟩ = some (.int .i64 o.kind) ∧ V.cell? ⟨B, 1, none⟩ = some (.string o.path) ∧ V.cell? ⟨B, 2, none⟩ = some (.string o.tgt) ∧ V.cell? ⟨B, 3, none⟩ = some (.slice o.bA no o.bc) ∧ V.cell? ⟨B, 4, none⟩ = some (.int .i64 o.n) ∧ V.cell? ⟨B, 5, none⟩ = some (.slice o.kA mo o.kc))
                  (first | exact KS.out _ (by assumption) | exact KS.out _ (Off.refl _ _).drew)
                  (first
                    | (go_at_call 8; (with_reducible refine (refnew_any _).mono ?_); rintro e W8 ⟨rfl, x8, b8⟩
                       have x8' : EmptyD Wb.heap.size W8 := x8
                       have b8' : Below Wb.heap.size Wb W8 := (below_drewN (Below.refl _ _) 1).trans b8
                       have o8 : Off (fun b => ¬ FZ b) Wb W8 := (Off.of_below b8').mono (fun _ h => h.elim))
                    | (go_at_call 9; (with_reducible refine (HDO.out _ x8' b8').mono ?_); rintro e W9 ⟨⟨bb, rfl⟩, M9⟩
                       have o9 : Off (fun b => ¬ FZ b) Wb W9 := M9.off))
                go_wp2_with (go_at_call 10; (with_reducible refine (HRD.out _ M9).mono ?_); rintro e W10 ⟨A10, c10, rfl, ob10, b10, M10⟩
                             have v10 := HCV.out W10 A10 c10 (own_base (b2 := 0) ob10 (fun _ _ => Nat.zero_le _))
                             have vb := HCB.out W10 (HEND.out _ _ M10).off)
                go_roundw
                case rel => exact ⟨k + 1, q8, by omega, by omega, by go_num, Lib.hid ⟨HSM.out, HHD.out⟩, Lib.hid (HEND.out _ _ M10)⟩
                case measure => simp [RowKit.intOf]; omega
        · have hor : ¬ k < 60 ∨ (k < 60 ∧ ¬ no ≤ 2000) ∨ (k < 60 ∧ no ≤ 2000 ∧ ¬ mo ≤ 100) := by omega
          have HMA : ∀ o', Hid (MineS S w5 D q (wr.alloc o')) := fun o' => Lib.hid (HMk.out.below HLT.out ((Below.refl _ _).alloc (Nat.le_refl _) _))
          clear hall
          rcases hor with h1 | ⟨h1, h2⟩ | ⟨h1, h2, h3⟩
          · go_wp2
            go_meet
            case rel => exact ⟨q, HSc.out.1.mono (by omega), HSc.out.2, (HMA _).out⟩
          · go_wp2
            go_meet
            case rel => exact ⟨q, HSc.out.1.mono (by omega), HSc.out.2, (HMA _).out⟩
          · go_wp2
            go_meet
            case rel => exact ⟨q, HSc.out.1.mono (by omega), HSc.out.2, (HMA _).out⟩
      · obtain rfl : k = n := by omega
        go_wp2
        go_meet
        case rel => exact ⟨q, HSc.out.1.mono (by omega), HSc.out.2, HMk.out⟩
  case rest =>
    obtain ⟨q, hsq, hhq, Mq⟩ := hcut
    by_cases hodd : nk % 2 = 1
    · have ho1 : ((nk : Int) % 2) = 1 := by omega
      have hob : (((nk : Int) % 2) == 1) = true := by rw [ho1]; rfl
      have ho3 : (nk : Int).tmod 2 = 1 := by rw [Int.tmod_eq_emod_of_nonneg (by omega)]; exact ho1
      have hob3 : ((nk : Int).tmod 2 == 1) = true := by rw [ho3]; rfl
      obtain ⟨e1, q1, hq1⟩ : ∃ e q', appendQ q keptP [109, 111, 114, 101] = (e, q') := ⟨_, _, rfl⟩
      have hmore := hhq.more [109, 111, 114, 101]
      have hsm1 := hsq.append keptP [109, 111, 114, 101]
      rw [hq1] at hmore hsm1
      replace hsm1 : Small 130005 q1 := hsm1
      obtain ⟨r, hr⟩ := hmore.1.last hmore.2 ks
      have hap : Calls Tryz.prog 21 #[.pointer (some ⟨D, 0, none⟩), .string ⟨#[122, 47, 107, 101, 112, 116]⟩, .slice (some ⟨wc.heap.size, 0, none⟩) 4 4] (wc.alloc (.cells #[.int .u8 109, .int .u8 111, .int .u8 114, .int .u8 101] 5 (4, 5))) fun x w' => x = .returned (.int .i64 e1) ∧ MineS S w5 D q1 w' :=
        side_append HLT.out Mq ((Below.refl _ _).alloc (Nat.le_refl _) _) hsq ⟨#[122, 47, 107, 101, 112, 116]⟩ (by decide) [109, 111, 114, 101] 4 rfl (some ⟨wc.heap.size, 0, none⟩) 4 (rb_new _ (fun j hj => match j, hj with | 0, _ => rfl | 1, _ => rfl | 2, _ => rfl | 3, _ => rfl)) (fun _ x hx => .inr (by have : wc.heap.size = x := Option.some.inj hx; omega)) (by decide) hq1
      have HAP := Lib.hid hap
      have hcv4 := Lib.run_convert_bytes_const (P := Tryz.prog) wc 28 5 #[.int .u8 109, .int .u8 111, .int .u8 114, .int .u8 101] 4 4 Tryz.underlying28 Tryz.underlying5
      simp only [List.size_toArray, List.length_cons, List.length_nil, Nat.zero_add, Nat.reduceAdd] at hcv4
      have HCV4 := 0
      clear hap hmore hq1
      obtain ⟨q2, hq2⟩ : ∃ x, crashQ q1 ks = x := ⟨_, rfl⟩
      have hsm2 := hsm1.crash ks
      rw [hq2] at hsm2 hr
      obtain ⟨nr, hnr⟩ : ∃ x, ((lb ++ r) : Bs).length = x := ⟨_, rfl⟩
      have hnrb : nb ≤ nr := by have := HNB.out; rw [← hnr, List.length_append]; omega
      have hri : ∀ W, Off (fun b => ¬ S b) w5 W → RI W Ak ks := fun W hW hz => by
        obtain ⟨b, off, he, hb, hc⟩ := HK.out hz
        have h1 := HU2.out.size
        have h2 := hW.size
        exact ⟨b, off, he, by omega, fun j hj => hW.cell ((⟨HU2.out.os, HU2.out.tape, HU2.out.output, HU2.out.size, fun k hk _ => HU2.out.block k hk⟩ : Off (fun _ => False) w w5).cell (hc j hj) (fun h => h)) (fun h => h (HSW.out b hb))⟩
      have hkS : 0 < ks.length → ∀ x, aBlock Ak = some x → S x := fun hz x hx => by
        obtain ⟨b, off, he, hb, _⟩ := HK.out hz
        rw [he] at hx
        have : b = x := Option.some.inj hx
        subst this
        exact HSW.out b hb
      have hcr : ∀ V, MineS S w5 D q1 V → Calls Tryz.prog 22 #[.pointer (some ⟨D, 0, none⟩), .slice Ak nk ck] V fun x w' => x = .returned (.tuple #[]) ∧ MineS S w5 D q2 w' := fun V M =>
        side_crash HLT.out M (Below.refl _ _) hsm1 (by omega) ks nk HNK.out Ak ck (hri V M.off) HRG.out (by have := HNK.out; omega) (by have := HNK.out; omega) (fun hz x hx => .inl (hkS hz x hx)) hq2
      have hrd : ∀ V, MineS S w5 D q2 V → Calls Tryz.prog 10 #[.pointer (some ⟨D, 0, none⟩), .string ⟨#[122, 47, 107, 101, 112, 116]⟩] V fun x w' => ∃ v, x = .returned (.tuple #[v, .int .i64 0]) ∧ OwnB w' V.heap.size v (lb ++ r) ∧ Below V.heap.size V w' ∧ MineS S w5 D q2 w' := fun V M =>
        side_read HLT.out M hsm2 (by omega) ⟨#[122, 47, 107, 101, 112, 116]⟩ (by decide) (lb ++ r) hr
      have HCR := Lib.hid hcr
      have HRD := Lib.hid hrd
      have HNR := Lib.hid hnr
      have hni : (nb : Int) ≤ (nr : Int) := by omega
      clear hri hkS hcr hrd hq2 hsm2 hr hnr
      go_upto_region 22 with (first
        | (go_at_call 21; (with_reducible refine HAP.out.mono ?_); rintro e w6 ⟨rfl, M6⟩)
        | (go_at_call 22; (with_reducible refine (HCR.out _ M6).mono ?_); rintro e w7 ⟨rfl, M7⟩)
        | (go_at_call 10; (with_reducible refine (HRD.out _ M7).mono ?_); rintro e w9 ⟨v9, rfl, ob9, b9, M9⟩
           have hform := OwnB.read ob9
           rw [HNR.out] at hform
           obtain ⟨A9, c9, rfl, hc9, hR9, _⟩ := hform))
      have hsl : ∀ U, (Instr.slice 28 (.slice A9 nr c9) none (some (.int .i64 (nb : Int))) none).run Tryz.prog U = .ok (.slice (cutZ A9 c9 0 1) nb c9) U := fun U => cut_upto A9 nr c9 nb (by omega) U
      have hks : ∀ V, Off (fun _ => False) w9 V → (convert 28 9 (.slice (cutZ A9 c9 0 1) nb c9)).run Tryz.prog V = .ok (.string LB) V ∧ (convert 28 9 (.slice Ab nb cb)).run Tryz.prog V = .ok (.string LB) V := fun V ho => by
        have h1 : RB V A9 (lb ++ r) := RB.off hR9 ho (fun _ _ h => h)
        have h2 := h1.upto c9 nb (by rw [HNR.out]; omega)
        have h3 : ((lb ++ r) : Bs).take nb = lb := by
          rw [← HNB.out]
          exact List.take_left
        rw [h3] at h2
        refine ⟨(conv_slice c9 HNB.out h2).trans (by rw [HLBE.out]), HCB.out V (M9.off.trans ho (fun _ h => h.elim))⟩
      have KS := Lib.hid hks
      have hfar := far_below2 HU2.out M9.off HSW.out
      have hfd : ∀ V, Below w9.heap.size w9 V → Below w.heap.size w V := fun V h => Kept.go (show Kept w w9 from hfar) h
      have HFD := Lib.hid hfd
      clear hks ob9 b9 hR9 M9 M7 hfar hfd M6 HCV4
      have oN : ∀ k, Off (fun _ => False) w9 (w9.drewN k) := fun k => Off.of_below (below_drewN (Below.refl _ _) k)
      have r1 := fun k => (KS.out (w9.drewN k) (oN k)).1
      have r2 := fun k => (KS.out (w9.drewN k) (oN k)).2
      have s1 := (KS.out w9.drew (Off.refl _ _).drew).1
      have s2 := (KS.out w9.drew (Off.refl _ _).drew).2
      have q1' := (KS.out w9 (Off.refl _ _)).1
      have q2' := (KS.out w9 (Off.refl _ _)).2
      clear oN
      go_quiet (fail)
      go_wp2
      go_ret
      exact ⟨rfl, HFD.out _ (below_drewN (Below.refl _ _) _)⟩
    · have ho1 : ((nk : Int) % 2) = 0 := by omega
      have hob : (((nk : Int) % 2) == 1) = false := by rw [ho1]; rfl
      have ho3 : (nk : Int).tmod 2 = 0 := by rw [Int.tmod_eq_emod_of_nonneg (by omega)]; exact ho1
      have hob3 : ((nk : Int).tmod 2 == 1) = false := by rw [ho3]; rfl
      have hr : readQ (crashQ q ks) keptP = some lb := (hhq.crash hsq ks).read
      obtain ⟨q2, hq2⟩ : ∃ x, crashQ q ks = x := ⟨_, rfl⟩
      have hsm2 := hsq.crash ks
      rw [hq2] at hsm2 hr
      obtain ⟨nr, hnr⟩ : ∃ x, (lb : Bs).length = x := ⟨_, rfl⟩
      have hnrb : nb ≤ nr := by have := HNB.out; omega
      have hri : ∀ W, Off (fun b => ¬ S b) w5 W → RI W Ak ks := fun W hW hz => by
        obtain ⟨b, off, he, hb, hc⟩ := HK.out hz
        have h1 := HU2.out.size
        have h2 := hW.size
        exact ⟨b, off, he, by omega, fun j hj => hW.cell ((⟨HU2.out.os, HU2.out.tape, HU2.out.output, HU2.out.size, fun k hk _ => HU2.out.block k hk⟩ : Off (fun _ => False) w w5).cell (hc j hj) (fun h => h)) (fun h => h (HSW.out b hb))⟩
      have hkS : 0 < ks.length → ∀ x, aBlock Ak = some x → S x := fun hz x hx => by
        obtain ⟨b, off, he, hb, _⟩ := HK.out hz
        rw [he] at hx
        have : b = x := Option.some.inj hx
        subst this
        exact HSW.out b hb
      have hcr : ∀ V, MineS S w5 D q V → Calls Tryz.prog 22 #[.pointer (some ⟨D, 0, none⟩), .slice Ak nk ck] V fun x w' => x = .returned (.tuple #[]) ∧ MineS S w5 D q2 w' := fun V M =>
        side_crash HLT.out M (Below.refl _ _) hsq (by omega) ks nk HNK.out Ak ck (hri V M.off) HRG.out (by have := HNK.out; omega) (by have := HNK.out; omega) (fun hz x hx => .inl (hkS hz x hx)) hq2
      have hrd : ∀ V, MineS S w5 D q2 V → Calls Tryz.prog 10 #[.pointer (some ⟨D, 0, none⟩), .string ⟨#[122, 47, 107, 101, 112, 116]⟩] V fun x w' => ∃ v, x = .returned (.tuple #[v, .int .i64 0]) ∧ OwnB w' V.heap.size v lb ∧ Below V.heap.size V w' ∧ MineS S w5 D q2 w' := fun V M =>
        side_read HLT.out M hsm2 (by omega) ⟨#[122, 47, 107, 101, 112, 116]⟩ (by decide) lb hr
      have HCR := Lib.hid hcr
      have HRD := Lib.hid hrd
      have HNR := Lib.hid hnr
      have hni : (nb : Int) ≤ (nr : Int) := by omega
      obtain rfl : nb = nr := by rw [← HNR.out]; exact HNB.out.symm
      clear hri hkS hcr hrd hq2 hsm2 hr hnr
      go_upto_region 22 with (first
        | (go_at_call 22; (with_reducible refine (HCR.out _ Mq).mono ?_); rintro e w7 ⟨rfl, M7⟩)
        | (go_at_call 10; (with_reducible refine (HRD.out _ M7).mono ?_); rintro e w9 ⟨v9, rfl, ob9, b9, M9⟩
           have hform := OwnB.read ob9
           rw [HNR.out] at hform
           obtain ⟨A9, c9, rfl, hc9, hR9, _⟩ := hform))
      have hsl : ∀ U, (Instr.slice 28 (.slice A9 nb c9) none (some (.int .i64 (nb : Int))) none).run Tryz.prog U = .ok (.slice (cutZ A9 c9 0 1) nb c9) U := fun U => cut_upto A9 nb c9 nb (by omega) U
      have hks : ∀ V, Off (fun _ => False) w9 V → (convert 28 9 (.slice (cutZ A9 c9 0 1) nb c9)).run Tryz.prog V = .ok (.string LB) V ∧ (convert 28 9 (.slice Ab nb cb)).run Tryz.prog V = .ok (.string LB) V := fun V ho => by
        have h1 : RB V A9 lb := RB.off hR9 ho (fun _ _ h => h)
        have h2 := h1.upto c9 nb (by rw [HNR.out]; omega)
        have h3 : (lb : Bs).take nb = lb := by
          rw [← HNB.out]
          exact List.take_length
        rw [h3] at h2
        refine ⟨(conv_slice c9 HNB.out h2).trans (by rw [HLBE.out]), HCB.out V (M9.off.trans ho (fun _ h => h.elim))⟩
      have KS := Lib.hid hks
      have hfar := far_below2 HU2.out M9.off HSW.out
      have hfd : ∀ V, Below w9.heap.size w9 V → Below w.heap.size w V := fun V h => Kept.go (show Kept w w9 from hfar) h
      have HFD := Lib.hid hfd
      clear hks ob9 b9 hR9 M9 M7 hfar hfd
      have oN : ∀ k, Off (fun _ => False) w9 (w9.drewN k) := fun k => Off.of_below (below_drewN (Below.refl _ _) k)
      have r1 := fun k => (KS.out (w9.drewN k) (oN k)).1
      have r2 := fun k => (KS.out (w9.drewN k) (oN k)).2
      have s1 := (KS.out w9.drew (Off.refl _ _).drew).1
      have s2 := (KS.out w9.drew (Off.refl _ _).drew).2
      have q1' := (KS.out w9 (Off.refl _ _)).1
      have q2' := (KS.out w9 (Off.refl _ _)).2
      clear oN
      go_quiet (fail)
      go_wp2
      go_ret
      exact ⟨rfl, HFD.out _ (below_drewN (Below.refl _ _) _)⟩
end Go.Proofs.YtbodkjifpmencaaGreat
