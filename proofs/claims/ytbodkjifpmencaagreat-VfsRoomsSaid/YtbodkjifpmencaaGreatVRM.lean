/-
  The walk of the law VfsRooms. No conditions.
-/
import Derived.Test.YtbodkjifpmencaaGreatVRS
import Derived.Test.YtbodkjifpmencaaGreatVZI
import Derived.Test.YtbodkjifpmencaaGreatVC
import Derived.Deep.CutBlock
import Derived.Deep.DeepCutAuto
import Derived.Deep.RegionHeld3
namespace Go.Proofs.YtbodkjifpmencaaGreat
open Go.RowKit
open Go.Lib

theorem far_below {S : Nat → Prop} {w w3 W : World} (hU : Below w.heap.size w w3) (ho : Off (fun b => ¬ S b) w3 W) (hS : ∀ b, b < w.heap.size → S b) : Below w.heap.size w W :=
  hU.trans ⟨ho.os, ho.tape, ho.output, ho.size, fun k hk => ho.block k (Nat.lt_of_lt_of_le hk hU.size) (fun h => h (hS k hk))⟩
theorem MineT.side {S T : Nat → Prop} {w0 W : World} {D : Nat} {q : Q} (M : MineT S T w0 D q W) : MineS (fun b => S b ∨ T b) W D q W := M.1
theorem MineT.lt {S T : Nat → Prop} {w0 W : World} {D : Nat} {q : Q} (M : MineT S T w0 D q W) : ∀ b, S b ∨ T b → b < W.heap.size := M.2.2.1
set_option maxRecDepth 100000 in
set_option maxHeartbeats 20000000 in
theorem law_rooms (rz : Int) (hr0 : 0 ≤ rz) (hr1 : rz ≤ 65535) (os : List OpR) (A : Option Addr) (c n : Nat) (w : World) (hn : os.length = n) (hn63 : n ≤ 9223372036854775807) (hO : RO w A os) (hok : ∀ o ∈ os, OpOk w o) :
    Calls Tryz.prog 5 #[.int .u16 rz, .slice A n c] w fun e w' => e = .returned (.bool true) ∧ Below w.heap.size w w' := by
  have HO := Lib.hid hO
  have HOK := Lib.hid hok
  have HN := Lib.hid hn
  clear hO hok hn
  obtain ⟨rm, hrm⟩ : ∃ m : Nat, rz % 200 = (m : Int) := ⟨(rz % 200).toNat, by omega⟩
  have hrl : rm ≤ 199 := by omega
  go_enter Tryz.func5, Tryz.ntmps5
  go_upto_block 0 with (first
    | (go_at_call 6; (with_reducible refine (first_any _).mono ?_); rintro e w1 ⟨rfl, b1⟩)
    | (go_at_call 7; (with_reducible refine (mine_new (w0 := w) _ _ b1).mono ?_); rintro e w2 ⟨D, rfl, M0⟩))
  obtain ⟨S, hS⟩ : ∃ S : Nat → Prop, (fun b => b < w.heap.size) = S := ⟨_, rfl⟩
  have hM : MineS S w2 D (qNew rm) w2 := by rw [← hS]; exact (M0.side (Below.refl _ _)).less (fun b h => .inl h)
  have HSW : Hid (∀ b, b < w.heap.size → S b) := Lib.hid (fun b hb => by rw [← hS]; exact hb)
  have HU2 := Lib.hid M0.under
  have HLT : Hid (∀ b, S b → b < w2.heap.size) := Lib.hid (fun b hb => by rw [← hS] at hb; have := HU2.out.size; omega)
  have HM := Lib.hid hM
  clear hM M0 hS b1
  go_cut [27] (fun _ wx => Below w.heap.size w wx)
  case first =>
    go_wp2_with fail
    go_loopw [27] (fun i wr => ∃ (k : Nat) (q : Q), k ≤ n ∧ k ≤ 60 ∧ i = .int .i64 (k : Int) ∧ Hid (RScr q (1100 * k) rm) ∧ Hid (MineS S w2 D q wr)) (fun i _ => n - (RowKit.intOf i).toNat)
    case atStart => exact ⟨0, _, Nat.zero_le _, by omega, rfl, Lib.hid (RScr.new rm (by omega)), HM⟩
    case round =>
      obtain ⟨k, q, hk, hk60, rfl, HSc, HMk⟩ := hrel
      by_cases hlt : k < n
      · have hkl : k < os.length := by rw [HN.out]; exact hlt
        obtain ⟨b, off, hAe, hbl, hcs⟩ := HO.out (by omega)
        have hO := HOK.out os[k] (List.getElem_mem hkl)
        obtain ⟨o, ho⟩ : ∃ o, os[k] = o := ⟨_, rfl⟩
        have hc := hcs k hkl
        rw [ho] at hc hO
        have hat : ∀ i v, i < 6 → (opCells o)[i]? = some v → wr.cell? ⟨b, off + k * 6 + i, none⟩ = some v := fun i v hi hv =>
          HMk.out.off.cell ((Off.of_below HU2.out).cell ((hc i hi).trans hv) (fun h => h)) (fun h => h (HSW.out b hbl))
        have d0 : wr.cell? ⟨b, off + k * 6, none⟩ = some (.int .i64 o.kind) := hat 0 _ (by decide) rfl
        have d1 : wr.cell? ⟨b, off + k * 6 + 1, none⟩ = some (.string o.path) := hat 1 _ (by decide) rfl
        have d2 : wr.cell? ⟨b, off + k * 6 + 2, none⟩ = some (.string o.tgt) := hat 2 _ (by decide) rfl
        have d3 : wr.cell? ⟨b, off + k * 6 + 3, none⟩ = some (.slice o.bA o.b.length o.bc) := hat 3 _ (by decide) rfl
        have d4 : wr.cell? ⟨b, off + k * 6 + 4, none⟩ = some (.int .i64 o.n) := hat 4 _ (by decide) rfl
        have d5 : wr.cell? ⟨b, off + k * 6 + 5, none⟩ = some (.slice o.kA o.ks.length o.kc) := hat 5 _ (by decide) rfl
        subst hAe
        have HOO := Lib.hid hO
        clear hat hc hcs hO ho
        obtain ⟨nb, hnb⟩ : ∃ x, o.b.length = x := ⟨_, rfl⟩
        obtain ⟨nk, hnk⟩ : ∃ x, o.ks.length = x := ⟨_, rfl⟩
        obtain ⟨np, hnp⟩ : ∃ x, o.path.size = x := ⟨_, rfl⟩
        obtain ⟨nt, hnt⟩ : ∃ x, o.tgt.size = x := ⟨_, rfl⟩
        rw [hnb] at d3
        rw [hnk] at d5
        by_cases hall : k < 60 ∧ nb ≤ 1000 ∧ nk ≤ 50 ∧ np ≤ 200 ∧ nt ≤ 200
        · obtain ⟨t1, t2, t3, t4, t5⟩ := hall
          have hmx : max (np : Int) (nt : Int) ≤ 200 := by omega
          obtain ⟨Wb, hWb⟩ : ∃ V, wr.alloc (.cells #[.int .i64 o.kind, .string o.path, .string o.tgt, .slice o.bA nb o.bc, .int .i64 o.n, .slice o.kA nk o.kc] 31) = V := ⟨_, rfl⟩
          have hbx := Blk.new (.cells #[.int .i64 o.kind, .string o.path, .string o.tgt, .slice o.bA nb o.bc, .int .i64 o.n, .slice o.kA nk o.kc] 31 (0, 0)) wr
          have hb1 : Below wr.heap.size wr Wb := by rw [← hWb]; exact (Below.refl _ _).alloc (Nat.le_refl _) _
          have hzb : Wb.heap.size = wr.heap.size + 1 := by rw [← hWb]; simp
          rw [hWb] at hbx
          have hMb := (MineT.of HLT.out HMk.out).new hb1
          obtain ⟨B, hB⟩ : ∃ B, wr.heap.size = B := ⟨_, rfl⟩
          rw [hB] at hMb hbx hzb
          obtain ⟨T0, hT0⟩ : ∃ T0 : Nat → Prop, (fun b => False ∨ (B ≤ b ∧ b < Wb.heap.size)) = T0 := ⟨_, rfl⟩
          have hT0B : T0 B := by rw [← hT0]; exact .inr ⟨Nat.le_refl _, by omega⟩
          rw [hT0] at hMb
          have hcell : ∀ V, Off (fun x => ¬ (S x ∨ T0 x)) Wb V → Blk B (.cells #[.int .i64 o.kind, .string o.path, .string o.tgt, .slice o.bA nb o.bc, .int .i64 o.n, .slice o.kA nk o.kc] 31 (0, 0)) V := fun V ho => ho.blk hbx (fun h => h (.inr hT0B))
          have hokV : ∀ V, Off (fun b => ¬ S b) w2 V → OpOk V o := fun V ho => HOO.out.off (((Off.of_below HU2.out).mono (fun _ h => h.elim)).trans ho (fun b hb' => by
            by_cases hbw : b < w.heap.size
            · exact absurd (HSW.out b hbw) hb'
            · exact .inr (by omega))) (fun b _ h => h)
          have f1 : Wb.cell? ⟨B, 1, none⟩ = some (.string o.path) := hbx.cell 1
          have f2 : Wb.cell? ⟨B, 2, none⟩ = some (.string o.tgt) := hbx.cell 2
          have f3 : Wb.cell? ⟨B, 3, none⟩ = some (.slice o.bA nb o.bc) := hbx.cell 3
          have f5 : Wb.cell? ⟨B, 5, none⟩ = some (.slice o.kA nk o.kc) := hbx.cell 5
          obtain ⟨pl, hpl⟩ : ∃ x, o.path.data.toList = x := ⟨_, rfl⟩
          obtain ⟨u, hu⟩ : ∃ x, usedQ q = x := ⟨_, rfl⟩
          have hsp := rsplit_any o.path Wb (by omega)
          rw [hpl] at hsp
          obtain ⟨DK, hDK⟩ : ∃ x, bs (splitL pl).1 = x := ⟨_, rfl⟩
          obtain ⟨DR, hDR⟩ : ∃ x, bs (splitL pl).2 = x := ⟨_, rfl⟩
          rw [hDK, hDR] at hsp
          obtain ⟨dl, hdl⟩ : ∃ x, DK.data.toList = x := ⟨_, rfl⟩
          obtain ⟨ls, hls⟩ : ∃ x, listQ q dl = x := ⟨_, rfl⟩
          obtain ⟨m, hm⟩ : ∃ x, ls.length = x := ⟨_, rfl⟩
          have hm66 : m ≤ 66000 := by
            have h1 := HSc.out.small.nn
            have h2 : (listQ q dl).length ≤ q.names.length := by unfold listQ; rw [List.length_mergeSort]; exact Nat.le_trans (List.length_filter_le _ _) (by simp)
            rw [hls] at h2; omega
          obtain ⟨rb, hrb⟩ : ∃ x, rdB q pl = x := ⟨_, rfl⟩
          obtain ⟨re, hre⟩ : ∃ x, rdE q pl = x := ⟨_, rfl⟩
          obtain ⟨nr, hnr⟩ : ∃ x, rb.length = x := ⟨_, rfl⟩
          have hLs : ∀ V, MineS (fun x => S x ∨ T0 x) Wb D q V → Calls Tryz.prog 16 #[.pointer (some ⟨D, 0, none⟩), .string DK] V fun x w' => ∃ A c, x = .returned (.slice A m c) ∧ RT w' A ls ∧ (∀ b, aBlock A = some b → V.heap.size ≤ b ∧ b < w'.heap.size) ∧ Below V.heap.size V w' ∧ MineS (fun x => S x ∨ T0 x) Wb D q w' := fun V M => by
            have h := side_list hMb.lt M HSc.out.small (by omega) DK ls (by rw [hdl]; exact hls)
            rw [hm] at h
            exact h
          have hRd : ∀ V, MineS (fun x => S x ∨ T0 x) Wb D q V → Calls Tryz.prog 10 #[.pointer (some ⟨D, 0, none⟩), .string o.path] V fun x w' => ∃ A c, x = .returned (.tuple #[.slice A nr c, .int .i64 re]) ∧ OwnB w' V.heap.size (.slice A nr c) rb ∧ Below V.heap.size V w' ∧ MineS (fun x => S x ∨ T0 x) Wb D q w' := fun V M => by
            have h := side_readv hMb.lt M HSc.out.small (by omega) o.path (by omega) rb re (by rw [hpl]; exact hrb) (by rw [hpl]; exact hre)
            rw [hnr] at h
            exact h
          have HMb := Lib.hid hMb
          have HTB := Lib.hid hT0B
          have HCE := Lib.hid hcell
          have HOV := Lib.hid hokV
          have HSP := Lib.hid hsp
          have HUS := Lib.hid hu
          have HLS := Lib.hid hLs
          have HRD := Lib.hid hRd
          have HPL := Lib.hid hpl
          have HDL := Lib.hid hdl
          have HLQ := Lib.hid hls
          have HML := Lib.hid hm
          have HRB := Lib.hid hrb
          have HRE := Lib.hid hre
          have HNR := Lib.hid hnr
          have HB1 := Lib.hid hb1
          clear hbx hb1 hMb hT0 hT0B hcell hokV hpl hu hsp hDK hDR hdl hls hm hrb hre hnr hLs hRd
          go_upto_if 78 with (first
            | (go_at_call 14; (with_reducible refine HSP.out.mono ?_); rintro e w4 ⟨rfl, b4⟩)
            | (go_at_call 12; (with_reducible refine (side_used2 HMb.out.lt (HMb.out.side.below HMb.out.lt b4) HSc.out.small (by omega) u HUS.out).mono ?_); rintro e w5 ⟨rfl, b5, M5⟩)
            | (go_at_call 16; (with_reducible refine (HLS.out _ M5).mono ?_); rintro e w6 ⟨A6, c6, rfl, rt6, nb6, b6, M6⟩
               have g1 : w6.cell? ⟨B, 1, none⟩ = some (.string o.path) := (HCE.out w6 M6.off).cell 1)
            | (go_at_call 10; (with_reducible refine (HRD.out _ M6).mono ?_); rintro e w7 ⟨A7, c7, rfl, ob7, b7, M7⟩
               have g0 : w7.cell? ⟨B, 0, none⟩ = some (.int .i64 o.kind) := (HCE.out w7 M7.off).cell 0))
          have bA : Below Wb.heap.size Wb w7 := Kept.go (Kept.go (Kept.go (show Kept Wb w4 from b4) b5) b6) b7
          have hz4 := b4.size
          have hz5 := b5.size
          have hz6 := b6.size
          have hz7 := b7.size
          have hM7 := HMb.out.new bA
          obtain ⟨T7, hT7⟩ : ∃ T7 : Nat → Prop, (fun b => T0 b ∨ (Wb.heap.size ≤ b ∧ b < w7.heap.size)) = T7 := ⟨_, rfl⟩
          have h7B : T7 B := by rw [← hT7]; exact .inl HTB.out
          have h7N : ∀ b, Wb.heap.size ≤ b → b < w7.heap.size → T7 b := fun b h1 h2 => by rw [← hT7]; exact .inr ⟨h1, h2⟩
          rw [hT7] at hM7
          obtain ⟨FZ, hFZ⟩ : ∃ F : Nat → Prop, (fun b => S b ∨ T7 b) = F := ⟨_, rfl⟩
          have hF : MineS FZ w7 D q w7 := by rw [← hFZ]; exact hM7.side
          have hltF : ∀ b, FZ b → b < w7.heap.size := fun b hb => by rw [← hFZ] at hb; exact hM7.lt b hb
          have hFS : ∀ b, S b → FZ b := fun b hb => by rw [← hFZ]; exact .inl hb
          have hFT : ∀ b, T7 b → FZ b := fun b hb => by rw [← hFZ]; exact .inr hb
          have hend : ∀ q' W, MineS FZ w7 D q' W → MineS S w2 D q' W := fun q' W M => by rw [← hFZ] at M; exact (hM7.ret M).done
          have rt7 : RT w7 A6 ls := rt6.off (Off.of_below b7) (fun _ _ h => h)
          have hbx7 := HCE.out w7 M7.off
          have hkeep : ∀ W, Off (fun b => ¬ FZ b) w7 W → RT W A6 ls ∧ OwnB W 0 (.slice A7 nr c7) rb ∧ Blk B (.cells #[.int .i64 o.kind, .string o.path, .string o.tgt, .slice o.bA nb o.bc, .int .i64 o.n, .slice o.kA nk o.kc] 31 (0, 0)) W := fun W ho =>
            ⟨rt7.off ho (fun b hb h => h (hFT b (h7N b (by have := nb6 b hb; omega) (by have := nb6 b hb; omega)))), OwnB.off (own_base (b2 := 0) ob7 (fun _ _ => Nat.zero_le _)) ho (fun b hb h => by
              have h1 := World.ownsRow.lt ob7 b hb
              exact h (hFT b (h7N b (by omega) h1.2))), ho.blk hbx7 (fun h => h (hFT B h7B))⟩
          have hok7 : ∀ W, Off (fun b => ¬ FZ b) w7 W → OpOk W o := fun W ho => HOV.out W (hM7.done.off.trans ho (fun x hx => .inl (fun hs => hx (hFS x hs))))
          have hkS : 0 < o.ks.length → ∀ x, aBlock o.kA = some x → FZ x := fun hz x hx => by
            obtain ⟨b', off', he, hb', _⟩ := HOO.out.ri hz
            rw [he] at hx
            have : b' = x := Option.some.inj hx
            subst this
            exact hFS _ (HSW.out _ hb')
          have hbS : 0 < o.b.length → ∀ x, aBlock o.bA = some x → FZ x := fun hz x hx => by
            obtain ⟨b', off', he, hb', _⟩ := HOO.out.rb hz
            rw [he] at hx
            have : b' = x := Option.some.inj hx
            subst this
            exact hFS _ (HSW.out _ hb')
          have HF := Lib.hid hF
          have HLF := Lib.hid hltF
          have HEND := Lib.hid hend
          have HKE := Lib.hid hkeep
          have HO7 := Lib.hid hok7
          have HKS := Lib.hid hkS
          have HBS := Lib.hid hbS
          have hk8 := kindQ_lt o
          have hkq : kindQ o = (IntKind.u64.wrap o.kind).tmod 8 := rfl
          clear bA hM7 hT7 h7B h7N hFZ hF hltF hFS hFT hend rt7 hbx7 hkeep hok7 hkS hbS b4 b5 b6 b7 M5 M6 M7 rt6 nb6 ob7 g1 g0 hz4 hz5 hz6 hz7 HMb HCE HSP HLS HRD HTB
          go_cut [14] (fun _ wx => ∃ q', RScr q' (1100 * (k + 1)) rm ∧ (kindQ o ≠ 7 → (usedQ q' : Int) ≤ max (rm : Int) (u : Int)) ∧ MineS FZ w7 D q' wx)
          case first =>
            by_cases h6 : kindQ o < 6
            · have hk6 : ¬ (6 ≤ (IntKind.u64.wrap o.kind).tmod 8) := by rw [← hkq]; omega
              have htr : Calls Tryz.prog 23 #[.pointer (some ⟨D, 0, none⟩), .agg #[.int .i64 o.kind, .string o.path, .string o.tgt, .slice o.bA nb o.bc, .int .i64 o.n, .slice o.kA nk o.kc]] w7 fun e w' => e = .returned (.int .i64 (tryQ q o).1) ∧ MineS FZ w7 D (tryQ q o).2 w' := by
                have h := side_try HLF.out HF.out HSc.out.small o (HO7.out w7 (Off.refl _ _)) HBS.out (by rw [hnb]; omega) (by omega) (by omega)
                unfold opAgg at h
                rw [hnb, hnk] at h
                exact h
              have hsn := seen_try q o
              have hts := (HSc.out.try o).mono (show 1100 * k + 3 + o.b.length ≤ 1100 * (k + 1) by omega)
              obtain ⟨hh, hho⟩ := HSc.out.home
              have htu := try_used HSc.out.small hho.nodup o
              rw [HSc.out.room, HUS.out] at htu
              obtain ⟨e1, q1, htq⟩ : ∃ e q', tryQ q o = (e, q') := ⟨_, _, rfl⟩
              rw [htq] at htr hsn hts htu
              dsimp only at htr hsn hts htu
              have HTR := Lib.hid htr
              have HSN := Lib.hid hsn
              have HTS := Lib.hid hts
              have HTU := Lib.hid htu
              have hbox := (HKE.out w7 (Off.refl _ _)).2.2
              have x0 : w7.cell? ⟨B, 0, none⟩ = some (.int .i64 o.kind) := hbox.cell 0
              have x1 : w7.cell? ⟨B, 1, none⟩ = some (.string o.path) := hbox.cell 1
              have x2 : w7.cell? ⟨B, 2, none⟩ = some (.string o.tgt) := hbox.cell 2
              have x3 : w7.cell? ⟨B, 3, none⟩ = some (.slice o.bA nb o.bc) := hbox.cell 3
              have x4 : w7.cell? ⟨B, 4, none⟩ = some (.int .i64 o.n) := hbox.cell 4
              have x5 : w7.cell? ⟨B, 5, none⟩ = some (.slice o.kA nk o.kc) := hbox.cell 5
              clear htr hsn hts htu htq hho hbox hkq
              by_cases he : e1 = 0
              · subst he
                go_wp2_with (go_at_call 23; (with_reducible refine HTR.out.mono ?_); rintro e W8 ⟨rfl, M8⟩)
                go_meet
                case rel => exact ⟨q1, HTS.out, fun _ => HTU.out, M8⟩
              · have hne : (e1 == 0) = false := by rw [beq_eq_false_iff_ne]; exact he
                have hseen := HSN.out he
                have hls : listQ q1 dl = ls := (hseen.list dl).trans HLQ.out
                have hus : usedQ q1 = u := hseen.used.trans HUS.out
                have hrb : rdB q1 pl = rb := (hseen.rdB pl).trans HRB.out
                have hre : rdE q1 pl = re := (hseen.rdE pl).trans HRE.out
                have hRd : ∀ V, MineS FZ w7 D q1 V → Calls Tryz.prog 10 #[.pointer (some ⟨D, 0, none⟩), .string o.path] V fun x w' => ∃ A c, x = .returned (.tuple #[.slice A nr c, .int .i64 re]) ∧ OwnB w' V.heap.size (.slice A nr c) rb ∧ Below V.heap.size V w' ∧ MineS FZ w7 D q1 w' := fun V M => by
                  have h := side_readv HLF.out M HTS.out.small (by omega) o.path (by omega) rb re (by rw [HPL.out]; exact hrb) (by rw [HPL.out]; exact hre)
                  rw [HNR.out] at h
                  exact h
                have hUs : ∀ V, MineS FZ w7 D q1 V → Calls Tryz.prog 12 #[.pointer (some ⟨D, 0, none⟩)] V fun x w' => x = .returned (.int .i64 (u : Int)) ∧ Below V.heap.size V w' ∧ MineS FZ w7 D q1 w' := fun V M => side_used2 HLF.out M HTS.out.small (by omega) u hus
                have hLs : ∀ V, MineS FZ w7 D q1 V → Calls Tryz.prog 16 #[.pointer (some ⟨D, 0, none⟩), .string DK] V fun x w' => ∃ A c, x = .returned (.slice A m c) ∧ RT w' A ls ∧ (∀ b, aBlock A = some b → V.heap.size ≤ b ∧ b < w'.heap.size) ∧ Below V.heap.size V w' ∧ MineS FZ w7 D q1 w' := fun V M => by
                  have h := side_list HLF.out M HTS.out.small (by omega) DK ls (by rw [HDL.out]; exact hls)
                  rw [HML.out] at h
                  exact h
                have hSm : ∀ V A c, Off (fun b => ¬ FZ b) w7 V → RT V A ls → Calls Tryz.prog 15 #[.slice A m c, .slice A6 m c6] V fun e w' => e = .returned (.bool true) ∧ Below V.heap.size V w' := fun V A c ho hr => same_any V HML.out (by omega) hr (HKE.out V ho).1
                have hcv : ∀ V v, OwnB V 0 v rb → (convert 28 9 v).run Tryz.prog V = .ok (.string (bs rb)) V := fun V v h => by
                  obtain ⟨A, c, he, _, hR, _⟩ := OwnB.read h
                  rw [he]
                  exact conv_rb c hR
                have HRD1 := Lib.hid hRd
                have HUS1 := Lib.hid hUs
                have HLS1 := Lib.hid hLs
                have HSM1 := Lib.hid hSm
                have HCV := Lib.hid hcv
                clear hseen hls hus hrb hre hRd hUs hLs hSm hcv
                go_upto_region 15 with (first
                  | (go_at_call 23; (with_reducible refine HTR.out.mono ?_); rintro e W8 ⟨rfl, M8⟩
                     have x1' : W8.cell? ⟨B, 1, none⟩ = some (.string o.path) := (HKE.out W8 M8.off).2.2.cell 1)
                  | (go_at_call 10; (with_reducible refine (HRD1.out _ M8).mono ?_); rintro e W9 ⟨A9, c9, rfl, ob9, b9, M9⟩))
                obtain ⟨RS, hRS⟩ : ∃ x, bs rb = x := ⟨_, rfl⟩
                rw [hRS] at HCV
                have te : (RS.toList == RS.toList) = true := by simp
                go_wp2_with (first
                  | (go_at_call 12; (with_reducible refine (HUS1.out _ M9).mono ?_); rintro e W10 ⟨rfl, b10, M10⟩)
                  | (go_at_call 16; (with_reducible refine (HLS1.out _ M10).mono ?_); rintro e W11 ⟨A11, c11, rfl, rt11, _, b11, M11⟩)
                  | (go_at_call 15; (with_reducible refine (HSM1.out _ _ _ M11.off rt11).mono ?_); rintro e W12 ⟨rfl, b12⟩
                     have M12 := M11.below HLF.out b12
                     have v7 := HCV.out W12 _ (HKE.out W12 M12.off).2.1
                     have v9 := HCV.out W12 (.slice A9 nr c9) (OwnB.off (OwnB.off (OwnB.off (own_base (b2 := 0) ob9 (fun _ _ => Nat.zero_le _)) (Off.of_below b10) (fun _ _ h => h)) (Off.of_below b11) (fun _ _ h => h)) (Off.of_below b12) (fun _ _ h => h))))
                go_meet
                case rel => exact ⟨q1, HTS.out, fun _ => HTU.out, M12⟩
            · by_cases h6' : kindQ o = 6
              · have hk6 : (IntKind.u64.wrap o.kind).tmod 8 = 6 := by rw [← hkq]; exact h6'
                have hdo : ∀ W8, EmptyD w7.heap.size W8 → Below w7.heap.size w7 W8 → Calls Tryz.prog 9 #[.pointer (some ⟨D, 0, none⟩), .pointer (some ⟨w7.heap.size, 0, none⟩), .agg #[.int .i64 o.kind, .string o.path, .string o.tgt, .slice o.bA nb o.bc, .int .i64 o.n, .slice o.kA nk o.kc]] W8 fun e w' => (∃ b, e = .returned (.bool b)) ∧ MineS FZ w7 D (failQ q o.n (decide (0 < nb))) w' := fun W8 hx b8 => by
                  have hM8 := (MineT.of HLF.out HF.out).new b8
                  have h := do_fail hM8 hx (.inr ⟨Nat.le_refl _, hx.lt⟩) o (HO7.out W8 ((Off.of_below b8).mono (fun _ h => h.elim))) (by omega) h6'
                  unfold opAgg at h
                  rw [hnb, hnk] at h
                  exact h.mono fun e w' ⟨h1, h2⟩ => ⟨h1, h2.done⟩
                have hks : ∀ V, Off (fun b => ¬ FZ b) w7 V → V.cell? ⟨B, 0, none⟩ = some (.int .i64 o.kind) ∧ V.cell? ⟨B, 1, none⟩ = some (.string o.path) ∧ V.cell? ⟨B, 2, none⟩ = some (.string o.tgt) ∧ V.cell? ⟨B, 3, none⟩ = some (.slice o.bA nb o.bc) ∧ V.cell? ⟨B, 4, none⟩ = some (.int .i64 o.n) ∧ V.cell? ⟨B, 5, none⟩ = some (.slice o.kA nk o.kc) := fun V ho => by
                  have h := (HKE.out V ho).2.2
                  exact ⟨h.cell 0, h.cell 1, h.cell 2, h.cell 3, h.cell 4, h.cell 5⟩
                have hres : RScr (failQ q o.n (decide (0 < nb))) (1100 * (k + 1)) rm := (HSc.out.fail o.n (decide (0 < nb)) HOO.out.n.1 HOO.out.n.2).mono (by omega)
                have hus : kindQ o ≠ 7 → (usedQ (failQ q o.n (decide (0 < nb))) : Int) ≤ max (rm : Int) (u : Int) := fun _ => by
                  have h : usedQ (failQ q o.n (decide (0 < nb))) = u := HUS.out
                  rw [h]; omega
                have HDO := Lib.hid hdo
                have KS := Lib.hid hks
                have HRES := Lib.hid hres
                have HUSE := Lib.hid hus
                clear hdo hks hres hus hkq
                obtain ⟨q6, hq6⟩ : ∃ x, (failQ q o.n (decide (0 < nb))) = x := ⟨_, rfl⟩
                rw [hq6] at HDO HRES HUSE
                have x0 : w7.cell? ⟨B, 0, none⟩ = some (.int .i64 o.kind) := (KS.out w7 (Off.refl _ _)).1
                go_upto_region 12 with fail
                go_region_held3 (fun V => V.cell? ⟨B, 0, none⟩ = some (.int .i64 o.kind) ∧ V.cell? ⟨B, 1, none⟩ = some (.string o.path) ∧ V.cell? ⟨B, 2, none⟩ = some (.string o.tgt) ∧ V.cell? ⟨B, 3, none⟩ = some (.slice o.bA nb o.bc) ∧ V.cell? ⟨B, 4, none⟩ = some (.int .i64 o.n) ∧ V.cell? ⟨B, 5, none⟩ = some (.slice o.kA nk o.kc))
                  (first | exact KS.out _ (by assumption) | exact KS.out _ (Off.refl _ _).drew)
                  (first
                    | (go_at_call 8; (with_reducible refine (refnew_any _).mono ?_); rintro e W8 ⟨rfl, x8, b8⟩
                       have x8' : EmptyD w7.heap.size W8 := x8
                       have b8' : Below w7.heap.size w7 W8 := (below_drewN (Below.refl _ _) 1).trans b8
                       have o8 : Off (fun b => ¬ FZ b) w7 W8 := (Off.of_below b8').mono (fun _ h => h.elim))
                    | (go_at_call 9; (with_reducible refine (HDO.out _ x8' b8').mono ?_); rintro e W9 ⟨⟨bb, rfl⟩, M9⟩
                       have o9 : Off (fun b => ¬ FZ b) w7 W9 := M9.off))
                go_wp2_with fail
                go_meet
                case rel => exact ⟨q6, HRES.out, HUSE.out, M9⟩
              · have hk6 : (IntKind.u64.wrap o.kind).tmod 8 = 7 := by rw [← hkq]; omega
                have hdo : ∀ W8, EmptyD w7.heap.size W8 → Below w7.heap.size w7 W8 → Calls Tryz.prog 9 #[.pointer (some ⟨D, 0, none⟩), .pointer (some ⟨w7.heap.size, 0, none⟩), .agg #[.int .i64 o.kind, .string o.path, .string o.tgt, .slice o.bA nb o.bc, .int .i64 o.n, .slice o.kA nk o.kc]] W8 fun e w' => (∃ b, e = .returned (.bool b)) ∧ MineS FZ w7 D (crashQ q o.ks) w' := fun W8 hx b8 => by
                  have hM8 := (MineT.of HLF.out HF.out).new b8
                  have h := do_crash hM8 hx (.inr ⟨Nat.le_refl _, hx.lt⟩) o (HO7.out W8 ((Off.of_below b8).mono (fun _ h => h.elim))) (by omega) (by rw [hkq] at *; omega) HSc.out.small (by omega) (by omega) HKS.out
                  unfold opAgg at h
                  rw [hnb, hnk] at h
                  exact h.mono fun e w' ⟨h1, h2⟩ => ⟨h1, h2.done⟩
                have hks : ∀ V, Off (fun b => ¬ FZ b) w7 V → V.cell? ⟨B, 0, none⟩ = some (.int .i64 o.kind) ∧ V.cell? ⟨B, 1, none⟩ = some (.string o.path) ∧ V.cell? ⟨B, 2, none⟩ = some (.string o.tgt) ∧ V.cell? ⟨B, 3, none⟩ = some (.slice o.bA nb o.bc) ∧ V.cell? ⟨B, 4, none⟩ = some (.int .i64 o.n) ∧ V.cell? ⟨B, 5, none⟩ = some (.slice o.kA nk o.kc) := fun V ho => by
                  have h := (HKE.out V ho).2.2
                  exact ⟨h.cell 0, h.cell 1, h.cell 2, h.cell 3, h.cell 4, h.cell 5⟩
                have hres : RScr (crashQ q o.ks) (1100 * (k + 1)) rm := (HSc.out.crash o.ks).mono (by omega)
                have hus : kindQ o ≠ 7 → (usedQ (crashQ q o.ks) : Int) ≤ max (rm : Int) (u : Int) := fun h => absurd (by rw [hkq]; exact hk6) h
                have HDO := Lib.hid hdo
                have KS := Lib.hid hks
                have HRES := Lib.hid hres
                have HUSE := Lib.hid hus
                clear hdo hks hres hus hkq
                obtain ⟨q6, hq6⟩ : ∃ x, (crashQ q o.ks) = x := ⟨_, rfl⟩
                rw [hq6] at HDO HRES HUSE
                have x0 : w7.cell? ⟨B, 0, none⟩ = some (.int .i64 o.kind) := (KS.out w7 (Off.refl _ _)).1
                go_upto_region 12 with fail
                go_region_held3 (fun V => V.cell? ⟨B, 0, none⟩ = some (.int .i64 o.kind) ∧ V.cell? ⟨B, 1, none⟩ = some (.string o.path) ∧ V.cell? ⟨B, 2, none⟩ = some (.string o.tgt) ∧ V.cell? ⟨B, 3, none⟩ = some (.slice o.bA nb o.bc) ∧ V.cell? ⟨B, 4, none⟩ = some (.int .i64 o.n) ∧ V.cell? ⟨B, 5, none⟩ = some (.slice o.kA nk o.kc))
                  (first | exact KS.out _ (by assumption) | exact KS.out _ (Off.refl _ _).drew)
                  (first
                    | (go_at_call 8; (with_reducible refine (refnew_any _).mono ?_); rintro e W8 ⟨rfl, x8, b8⟩
                       have x8' : EmptyD w7.heap.size W8 := x8
                       have b8' : Below w7.heap.size w7 W8 := (below_drewN (Below.refl _ _) 1).trans b8
                       have o8 : Off (fun b => ¬ FZ b) w7 W8 := (Off.of_below b8').mono (fun _ h => h.elim))
                    | (go_at_call 9; (with_reducible refine (HDO.out _ x8' b8').mono ?_); rintro e W9 ⟨⟨bb, rfl⟩, M9⟩
                       have o9 : Off (fun b => ¬ FZ b) w7 W9 := M9.off))
                go_wp2_with fail
                go_meet
                case rel => exact ⟨q6, HRES.out, HUSE.out, M9⟩
          case rest =>
            obtain ⟨q', hsc, hus, M8⟩ := hcut
            have hz8 := HEND.out _ _ M8
            have HSC := Lib.hid hsc
            have HM8 := Lib.hid M8
            have HZ8 := Lib.hid hz8
            obtain ⟨u8, hu8⟩ : ∃ x, usedQ q' = x := ⟨_, rfl⟩
            have HUW := Lib.hid (side_used2 HLF.out M8 hsc.small (by omega) u8 hu8)
            have x0 : wc.cell? ⟨B, 0, none⟩ = some (.int .i64 o.kind) := (HKE.out wc M8.off).2.2.cell 0
            have HLF2 := HLF
            rw [hu8] at hus
            clear hsc M8 hz8 hu8
            by_cases h7 : kindQ o = 7
            · have hk7 : (IntKind.u64.wrap o.kind).tmod 8 = 7 := by rw [← hkq]; exact h7
              clear hus hkq h7
              go_wp2_with fail
              go_roundw
              case rel => exact ⟨k + 1, q', by omega, by omega, by go_num, HSC, HZ8⟩
              case measure => simp [RowKit.intOf]; omega
            · have hk7 : ((IntKind.u64.wrap o.kind).tmod 8 == 7) = false := by rw [beq_eq_false_iff_ne, ← hkq]; exact h7
              have hk7b : ¬ (IntKind.u64.wrap o.kind).tmod 8 = 7 := by rw [← hkq]; exact h7
              have hk7c : ((IntKind.u64.wrap o.kind).tmod 8 != 7) = true := by rw [bne, hk7]; rfl
              have hum := hus h7
              have hun : ¬ (max (rm : Int) (u : Int) < (u8 : Int)) := by omega
              clear hus hkq h7
              go_wp2_with (go_at_call 12; (with_reducible refine HUW.out.mono ?_); rintro e W9 ⟨rfl, b9, M9⟩)
              go_roundw
              case rel => exact ⟨k + 1, q', by omega, by omega, by go_num, HSC, Lib.hid (HEND.out _ _ M9)⟩
              case measure => simp [RowKit.intOf]; omega
        · have hor : ¬ k < 60 ∨ (k < 60 ∧ ¬ nb ≤ 1000) ∨ (k < 60 ∧ nb ≤ 1000 ∧ ¬ nk ≤ 50) ∨ (k < 60 ∧ nb ≤ 1000 ∧ nk ≤ 50 ∧ ¬ (np ≤ 200 ∧ nt ≤ 200)) := by omega
          have hfin := far_below HU2.out HMk.out.off HSW.out
          have HF := Lib.hid hfin
          clear hall hfin
          rcases hor with h1 | ⟨h1, h2⟩ | ⟨h1, h2, h3⟩ | ⟨h1, h2, h3, h4⟩
          · go_wp2
            go_meet
            case rel => exact Kept.go (show Kept w wr from HF.out) ((Below.refl _ _).alloc (Nat.le_refl _) _)
          · go_wp2
            go_meet
            case rel => exact Kept.go (show Kept w wr from HF.out) ((Below.refl _ _).alloc (Nat.le_refl _) _)
          · go_wp2
            go_meet
            case rel => exact Kept.go (show Kept w wr from HF.out) ((Below.refl _ _).alloc (Nat.le_refl _) _)
          · have hmx : (200 : Int) < max (np : Int) (nt : Int) := by omega
            go_wp2
            go_meet
            case rel => exact Kept.go (show Kept w wr from HF.out) ((Below.refl _ _).alloc (Nat.le_refl _) _)
      · obtain rfl : k = n := by omega
        go_wp2
        go_meet
        case rel => exact far_below HU2.out HMk.out.off HSW.out
  case rest =>
    have HB := Lib.hid hcut
    clear hcut HM
    go_wp2_with (first
      | (go_at_call 10; (with_reducible refine (read_nil _ _).mono ?_); rintro e V1 ⟨rfl, rfl⟩)
      | (go_at_call 24; (with_reducible refine (fail_nil _ _ _).mono ?_); rintro e V2 ⟨rfl, rfl⟩)
      | (go_at_call 22; (with_reducible refine (crash_nil (.pointer none) _ _ _ _).mono ?_); rintro e V3 ⟨rfl, b3⟩)
      | (go_at_call 12; (with_reducible refine (used_nil _).mono ?_); rintro e V4 ⟨rfl, rfl⟩)
      | (go_at_call 16; (with_reducible refine (list_nil _ _).mono ?_); rintro e V5 ⟨rfl, rfl⟩)
      | (go_at_call 23; (with_reducible refine (try_nil _ (by decide) _).mono ?_); rintro e V6 ⟨rfl, b6⟩)
      | (go_at_call 20; (with_reducible refine (syncDir_nil _).mono ?_); rintro e V7 ⟨rfl, b7⟩))
    go_ret
    exact ⟨rfl, Kept.go (Kept.go (Kept.go (Kept.go (show Kept w wc from HB.out) ((Below.refl _ _).alloc (Nat.le_refl _) _)) b3) b6) b7⟩
end Go.Proofs.YtbodkjifpmencaaGreat
