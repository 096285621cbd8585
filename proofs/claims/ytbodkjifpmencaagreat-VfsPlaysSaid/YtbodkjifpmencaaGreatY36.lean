/-
  The walk of the law VfsPlays. No conditions.
-/
import Derived.Test.YtbodkjifpmencaaGreatY35
namespace Go.Proofs.YtbodkjifpmencaaGreat
open Go.RowKit
open Go.Lib

theorem far_below3 {S : Nat → Prop} {w w3 W : World} (hU : Below w.heap.size w w3) (ho : Off (fun b => ¬ S b) w3 W) (hS : ∀ b, b < w.heap.size → S b) : Below w.heap.size w W :=
  hU.trans ⟨ho.os, ho.tape, ho.output, ho.size, fun k hk => ho.block k (Nat.lt_of_lt_of_le hk hU.size) (fun h => h (hS k hk))⟩
set_option maxRecDepth 100000 in
set_option maxHeartbeats 20000000 in
theorem law_plays (rz : Int) (hr1 : rz ≤ 9223372036854775807) (os : List OpR) (A : Option Addr) (c n : Nat) (w : World) (hn : os.length = n) (hn63 : n ≤ 9223372036854775807) (hO : RO w A os) (hok : ∀ o ∈ os, OpOk w o) :
    Calls Tryz.prog 3 #[.int .i64 rz, .slice A n c] w fun e w' => e = .returned (.bool true) ∧ Below w.heap.size w w' := by
  have HO := Lib.hid hO
  have HOK := Lib.hid hok
  have HN := Lib.hid hn
  clear hO hok hn
  go_enter Tryz.func3, Tryz.ntmps3
  go_upto_block 0 with (first
    | (go_at_call 6; (with_reducible refine (first_any _).mono ?_); rintro e w1 ⟨rfl, b1⟩)
    | (go_at_call 7; (with_reducible refine (mine_new (w0 := w) _ _ b1).mono ?_); rintro e w2 ⟨D, rfl, M0⟩)
    | (go_at_call 8; (with_reducible refine (rnew_any _ _).mono ?_); rintro e w3 ⟨rfl, hR3, b3, hs3⟩))
  obtain ⟨S, hS⟩ : ∃ S : Nat → Prop, (fun b => b < w.heap.size) = S := ⟨_, rfl⟩
  have hM : MineS S w2 D (qNew rz) w2 := by rw [← hS]; exact (M0.side (Below.refl _ _)).less (fun b h => .inl h)
  have HSW : Hid (∀ b, b < w.heap.size → S b) := Lib.hid (fun b hb => by rw [← hS]; exact hb)
  have HU2 := Lib.hid M0.under
  have HLT : Hid (∀ b, S b → b < w2.heap.size) := Lib.hid (fun b hb => by rw [← hS] at hb; have := HU2.out.size; omega)
  obtain ⟨X, hX⟩ : ∃ X, w2.heap.size = X := ⟨_, rfl⟩
  have HB0 : Hid (Both S w2 D X (qNew rz) (rNew rz) w3) := Lib.hid ⟨_, fun b => b = X, (MineT.of HLT.out hM).new b3, ⟨gNew, by rw [← hX]; exact hR3⟩, fun b hb => .inr ⟨by omega, by omega⟩⟩
  rw [hX]
  have HD0 := Lib.hid (Dbl.new rz hr1)
  have HC0 : Hid (COk (rNew rz)) := Lib.hid ⟨Int.le_refl 0, by show (0 : Int) ≤ _; decide⟩
  clear hM M0 hS b1 hR3 b3 hs3 hX
  go_wp2_with fail
  go_loopw [24] (fun i wr => ∃ (k : Nat) (q : Q) (r : R), k ≤ n ∧ k ≤ 80 ∧ i = .int .i64 (k : Int) ∧ Hid (Dbl (3003 * k) q r) ∧ Hid (COk r) ∧ Hid (Both S w2 D X q r wr)) (fun i _ => n - (RowKit.intOf i).toNat)
  case atStart => exact ⟨0, _, _, Nat.zero_le _, by omega, rfl, HD0, HC0, HB0⟩
  case round =>
    clear HD0 HC0 HB0
    obtain ⟨k, q, r, hk, hk80, rfl, HDk, HCk, HBk⟩ := hrel
    by_cases hlt : k < n
    · have hkl : k < os.length := by rw [HN.out]; exact hlt
      obtain ⟨b, off, hAe, hbl, hcs⟩ := HO.out (by omega)
      have hO := HOK.out os[k] (List.getElem_mem hkl)
      obtain ⟨o, ho⟩ : ∃ o, os[k] = o := ⟨_, rfl⟩
      have hc := hcs k hkl
      rw [ho] at hc hO
      have hat : ∀ i v, i < 6 → (opCells o)[i]? = some v → wr.cell? ⟨b, off + k * 6 + i, none⟩ = some v := fun i v hi hv =>
        HBk.out.off.cell ((Off.of_below HU2.out).cell ((hc i hi).trans hv) (fun h => h)) (fun h => h (HSW.out b hbl))
      have d0 : wr.cell? ⟨b, off + k * 6, none⟩ = some (.int .i64 o.kind) := hat 0 _ (by decide) rfl
      have d1 : wr.cell? ⟨b, off + k * 6 + 1, none⟩ = some (.string o.path) := hat 1 _ (by decide) rfl
      have d2 : wr.cell? ⟨b, off + k * 6 + 2, none⟩ = some (.string o.tgt) := hat 2 _ (by decide) rfl
      have d3 : wr.cell? ⟨b, off + k * 6 + 3, none⟩ = some (.slice o.bA o.b.length o.bc) := hat 3 _ (by decide) rfl
      have d4 : wr.cell? ⟨b, off + k * 6 + 4, none⟩ = some (.int .i64 o.n) := hat 4 _ (by decide) rfl
      have d5 : wr.cell? ⟨b, off + k * 6 + 5, none⟩ = some (.slice o.kA o.ks.length o.kc) := hat 5 _ (by decide) rfl
      subst hAe
      have HOO := Lib.hid hO
      clear hat hc hcs hO ho
      obtain ⟨nb, hnb⟩ : ∃ x, o.b.length = x := ⟨_, rfl⟩
      obtain ⟨nk, hnk⟩ : ∃ x, o.ks.length = x := ⟨_, rfl⟩
      obtain ⟨np, hnp⟩ : ∃ x, o.path.size = x := ⟨_, rfl⟩
      obtain ⟨nt, hnt⟩ : ∃ x, o.tgt.size = x := ⟨_, rfl⟩
      rw [hnb] at d3
      rw [hnk] at d5
      by_cases hall : k < 80 ∧ nb ≤ 3000 ∧ nk ≤ 100 ∧ np ≤ 300 ∧ nt ≤ 300
      · obtain ⟨t1, t2, t3, t4, t5⟩ := hall
        have hmx : max (np : Int) (nt : Int) ≤ 300 := by omega
        obtain ⟨Wb, hWb⟩ : ∃ V, wr.alloc (.cells #[.int .i64 o.kind, .string o.path, .string o.tgt, .slice o.bA nb o.bc, .int .i64 o.n, .slice o.kA nk o.kc] 31) = V := ⟨_, rfl⟩
        have hbx := Blk.new (.cells #[.int .i64 o.kind, .string o.path, .string o.tgt, .slice o.bA nb o.bc, .int .i64 o.n, .slice o.kA nk o.kc] 31 (0, 0)) wr
        have hb1 : Below wr.heap.size wr Wb := by rw [← hWb]; exact (Below.refl _ _).alloc (Nat.le_refl _) _
        have hzb : Wb.heap.size = wr.heap.size + 1 := by rw [← hWb]; simp
        rw [hWb] at hbx
        have hgrow := HBk.out.grow hb1
        obtain ⟨B, hB⟩ : ∃ B, wr.heap.size = B := ⟨_, rfl⟩
        rw [hB] at hbx hzb hgrow
        obtain ⟨S1, hS1⟩ : ∃ S1 : Nat → Prop, (fun b => S b ∨ (B ≤ b ∧ b < Wb.heap.size)) = S1 := ⟨_, rfl⟩
        rw [hS1] at hgrow
        have hSS : ∀ b, S b → S1 b := fun b h => by rw [← hS1]; exact .inl h
        have hSB : S1 B := by rw [← hS1]; exact .inr ⟨Nat.le_refl _, by omega⟩
        have hokb : OpOk Wb o := HOO.out.off ((((Off.of_below HU2.out).mono (fun _ h => h.elim)).trans HBk.out.off (fun b hb' => by
          by_cases hbw : b < w.heap.size
          · exact absurd (HSW.out b hbw) hb'
          · exact .inr (by omega))).trans (Off.of_below hb1) (fun _ h => h.elim)) (fun b _ h => h)
        have hkS : 0 < o.ks.length → ∀ x, aBlock o.kA = some x → S1 x := fun hz x hx => by
          obtain ⟨b', off', he, hb', _⟩ := HOO.out.ri hz
          rw [he] at hx
          have : b' = x := Option.some.inj hx
          subst this
          exact hSS _ (HSW.out _ hb')
        have hbS : 0 < o.b.length → ∀ x, aBlock o.bA = some x → S1 x := fun hz x hx => by
          obtain ⟨b', off', he, hb', _⟩ := HOO.out.rb hz
          rw [he] at hx
          have : b' = x := Option.some.inj hx
          subst this
          exact hSS _ (HSW.out _ hb')
        have hD1 := (HDk.out.act o HOO.out.n.1 HOO.out.n.2).mono (show 3003 * k + 3 + o.b.length ≤ 3003 * (k + 1) by omega)
        have hC1 := HCk.out.act q o HOO.out.n.2
        obtain ⟨q1, hq1⟩ : ∃ x, actQ q o = x := ⟨_, rfl⟩
        obtain ⟨r1, hr1'⟩ : ∃ x, actR q r o = x := ⟨_, rfl⟩
        have HDO : Hid (Calls Tryz.prog 9 #[.pointer (some ⟨D, 0, none⟩), .pointer (some ⟨X, 0, none⟩), .agg #[.int .i64 o.kind, .string o.path, .string o.tgt, .slice o.bA nb o.bc, .int .i64 o.n, .slice o.kA nk o.kc]] Wb fun e w' => e = .returned (.bool true) ∧ Both S1 Wb D X q1 r1 w') := Lib.hid (by
          have h := both_any hgrow HDk.out HCk.out (by omega) o hokb (by omega) (by omega) (by omega) hbS (by omega) hkS
          unfold opAgg at h
          rw [hnb, hnk, hq1, hr1'] at h
          exact h)
        rw [hq1, hr1'] at hD1
        rw [hr1'] at hC1
        have HD1 := Lib.hid hD1
        have HC1 := Lib.hid hC1
        have HBX := Lib.hid hbx
        have HSS := Lib.hid hSS
        have HSB := Lib.hid hSB
        have HBb := Lib.hid (HBk.out.below hb1)
        have HWB := Lib.hid hWb
        clear hbx hb1 hgrow hS1 hSS hSB hokb hkS hbS hD1 hC1 hq1 hr1' hWb
        go_upto_region 10 with (go_at_call 9; (first | (with_reducible refine HDO.out.mono ?_) | (rw [HWB.out]; with_reducible refine HDO.out.mono ?_)); rintro e W4 ⟨rfl, B4⟩)
        have hB4 := HBb.out.back B4 HSS.out
        have hcell : W4.cell? ⟨B, 1, none⟩ = some (.string o.path) := (B4.off.blk HBX.out (fun h => h HSB.out)).cell 1
        have hB4lt : B < W4.heap.size := by have := B4.lt B HSB.out; exact this
        have HB4 := Lib.hid hB4
        obtain ⟨F, hFl, hF⟩ := hB4.seen
        have HFL := Lib.hid hFl
        have HF := Lib.hid hF
        have KS : Hid (∀ V, Kept W4 V → V.cell? ⟨B, 1, none⟩ = some (.string o.path)) := Lib.hid (fun V hV => (show Below W4.heap.size W4 V from hV).cell (p := ⟨B, 1, none⟩) hB4lt |>.trans hcell)
        clear B4 hB4 hFl hF hcell HDO HBb HBX HSS HSB hzb HWB
        obtain ⟨pl, hpl⟩ : ∃ x, o.path.data.toList = x := ⟨_, rfl⟩
        have hN1 : 3003 * (k + 1) ≤ 250000 := by omega
        have hN9 : 3003 * (k + 1) ≤ 1048576 := by omega
        obtain ⟨u, hu⟩ : ∃ x, usedQ q1 = x := ⟨_, rfl⟩
        obtain ⟨rb, hrb⟩ : ∃ x, rdB q1 pl = x := ⟨_, rfl⟩
        obtain ⟨re, hre⟩ : ∃ x, rdE q1 pl = x := ⟨_, rfl⟩
        obtain ⟨nr, hnr⟩ : ∃ x, rb.length = x := ⟨_, rfl⟩
        have hnr9 : nr ≤ 1048576 := by rw [← hnr, ← hrb]; exact Nat.le_trans (rdB_len HD1.out.small _) hN9
        obtain ⟨RS, hRS⟩ : ∃ x, bs rb = x := ⟨_, rfl⟩
        obtain ⟨DK, hDK⟩ : ∃ x, bs (splitL pl).1 = x := ⟨_, rfl⟩
        obtain ⟨DR, hDR⟩ : ∃ x, bs (splitL pl).2 = x := ⟨_, rfl⟩
        have HSP : Hid (∀ V, Calls Tryz.prog 14 #[.string o.path] V fun e w' => e = .returned (.tuple #[.string DK, .string DR]) ∧ Below V.heap.size V w') := Lib.hid (fun V => by
          have h := rsplit_any o.path V (by omega)
          rw [hpl, hDK, hDR] at h
          exact h)
        have HRD : Hid (∀ V, Kept W4 V → Calls Tryz.prog 10 #[.pointer (some ⟨D, 0, none⟩), .string o.path] V fun x w' => ∃ A c, x = .returned (.tuple #[.slice A nr c, .int .i64 re]) ∧ OwnB w' V.heap.size (.slice A nr c) rb ∧ Below V.heap.size V w') := Lib.hid (fun V hV => by
          have h := side_readv HFL.out (HF.out V hV).1 HD1.out.small hN9 o.path (by omega) rb re (by rw [hpl]; exact hrb) (by rw [hpl]; exact hre)
          rw [hnr] at h
          refine h.mono ?_
          rintro x w' ⟨A, c, e, h1, h2, _⟩
          exact ⟨A, c, e, h1, h2⟩)
        have HRF : Hid (∀ V, Kept W4 V → Calls Tryz.prog 11 #[.pointer (some ⟨X, 0, none⟩), .string o.path] V fun e w' => e = .returned (.tuple #[.string RS, .int .i64 re]) ∧ Below V.heap.size V w') := Lib.hid (fun V hV => ref_read (HF.out V hV).2 HD1.out hN1 o.path (by omega) RS re (by rw [hpl, hrb]; exact hRS) (by rw [hpl]; exact hre))
        have HUD : Hid (∀ V, Kept W4 V → Calls Tryz.prog 12 #[.pointer (some ⟨D, 0, none⟩)] V fun x w' => x = .returned (.int .i64 (u : Int)) ∧ Below V.heap.size V w') := Lib.hid (fun V hV => (side_used2 HFL.out (HF.out V hV).1 HD1.out.small hN9 u hu).mono fun _ _ h => ⟨h.1, h.2.1⟩)
        have HUF : Hid (∀ V, Kept W4 V → Calls Tryz.prog 13 #[.pointer (some ⟨X, 0, none⟩)] V fun x w' => x = .returned (.int .i64 (u : Int)) ∧ Below V.heap.size V w') := Lib.hid (fun V hV => ref_used (HF.out V hV).2 HD1.out hN1 u hu)
        obtain ⟨l0, hl0⟩ : ∃ x, listQ q1 (ByteArray.data ⟨#[]⟩).toList = x := ⟨_, rfl⟩
        obtain ⟨m0, hm0⟩ : ∃ x, l0.length = x := ⟨_, rfl⟩
        have HM0 := Lib.hid hm0
        have hm0b : m0 ≤ 1048576 := by rw [← hm0, ← hl0]; exact Nat.le_trans (lists_len HD1.out.small _) hN9
        have HL0 : Hid (∀ V, Kept W4 V → Calls Tryz.prog 16 #[.pointer (some ⟨D, 0, none⟩), .string ⟨#[]⟩] V fun x w' => ∃ A c, x = .returned (.slice A m0 c) ∧ RT w' A l0 ∧ Below V.heap.size V w') := Lib.hid (fun V hV => by
          have h := side_list HFL.out (HF.out V hV).1 HD1.out.small hN9 ⟨#[]⟩ l0 hl0
          rw [hm0] at h
          refine h.mono ?_
          rintro x w' ⟨A, c, e, h1, _, h2, _⟩
          exact ⟨A, c, e, h1, h2⟩)
        have HF0 : Hid (∀ V, Kept W4 V → Calls Tryz.prog 17 #[.pointer (some ⟨X, 0, none⟩), .string ⟨#[]⟩] V fun x w' => ∃ A c, x = .returned (.slice A m0 c) ∧ RT w' A l0 ∧ Below V.heap.size V w') := Lib.hid (fun V hV => ref_list (HF.out V hV).2 HD1.out hN1 ⟨#[]⟩ l0 m0 hl0 hm0)
        obtain ⟨l1, hl1⟩ : ∃ x, listQ q1 (ByteArray.data DK).toList = x := ⟨_, rfl⟩
        obtain ⟨m1, hm1⟩ : ∃ x, l1.length = x := ⟨_, rfl⟩
        have HM1 := Lib.hid hm1
        have hm1b : m1 ≤ 1048576 := by rw [← hm1, ← hl1]; exact Nat.le_trans (lists_len HD1.out.small _) hN9
        have HL1 : Hid (∀ V, Kept W4 V → Calls Tryz.prog 16 #[.pointer (some ⟨D, 0, none⟩), .string DK] V fun x w' => ∃ A c, x = .returned (.slice A m1 c) ∧ RT w' A l1 ∧ Below V.heap.size V w') := Lib.hid (fun V hV => by
          have h := side_list HFL.out (HF.out V hV).1 HD1.out.small hN9 DK l1 hl1
          rw [hm1] at h
          refine h.mono ?_
          rintro x w' ⟨A, c, e, h1, _, h2, _⟩
          exact ⟨A, c, e, h1, h2⟩)
        have HF1 : Hid (∀ V, Kept W4 V → Calls Tryz.prog 17 #[.pointer (some ⟨X, 0, none⟩), .string DK] V fun x w' => ∃ A c, x = .returned (.slice A m1 c) ∧ RT w' A l1 ∧ Below V.heap.size V w') := Lib.hid (fun V hV => ref_list (HF.out V hV).2 HD1.out hN1 DK l1 m1 hl1 hm1)
        obtain ⟨l2, hl2⟩ : ∃ x, listQ q1 (ByteArray.data o.path).toList = x := ⟨_, rfl⟩
        obtain ⟨m2, hm2⟩ : ∃ x, l2.length = x := ⟨_, rfl⟩
        have HM2 := Lib.hid hm2
        have hm2b : m2 ≤ 1048576 := by rw [← hm2, ← hl2]; exact Nat.le_trans (lists_len HD1.out.small _) hN9
        have HL2 : Hid (∀ V, Kept W4 V → Calls Tryz.prog 16 #[.pointer (some ⟨D, 0, none⟩), .string o.path] V fun x w' => ∃ A c, x = .returned (.slice A m2 c) ∧ RT w' A l2 ∧ Below V.heap.size V w') := Lib.hid (fun V hV => by
          have h := side_list HFL.out (HF.out V hV).1 HD1.out.small hN9 o.path l2 hl2
          rw [hm2] at h
          refine h.mono ?_
          rintro x w' ⟨A, c, e, h1, _, h2, _⟩
          exact ⟨A, c, e, h1, h2⟩)
        have HF2 : Hid (∀ V, Kept W4 V → Calls Tryz.prog 17 #[.pointer (some ⟨X, 0, none⟩), .string o.path] V fun x w' => ∃ A c, x = .returned (.slice A m2 c) ∧ RT w' A l2 ∧ Below V.heap.size V w') := Lib.hid (fun V hV => ref_list (HF.out V hV).2 HD1.out hN1 o.path l2 m2 hl2 hm2)
        have HCV : Hid (∀ V v, OwnB V 0 v rb → (convert 28 9 v).run Tryz.prog V = .ok (.string RS) V) := Lib.hid (fun V v h => by
          obtain ⟨A, c, he, _, hR, _⟩ := OwnB.read h
          rw [he, ← hRS]
          exact conv_rb c hR)
        have HNR := Lib.hid hnr
        have te : (RS.toList == RS.toList) = true := by simp
        have k4 : Kept W4 W4 := Below.refl _ _
        have f1 : W4.cell? ⟨B, 1, none⟩ = some (.string o.path) := KS.out _ k4
        clear hpl hu hrb hre hnr hRS hDK hDR hl0 hl1 hl2 hm0 hm1 hm2 HFL HF hN1 hN9
        go_wp2_with (first
          | (go_at_call 10; (with_reducible refine (HRD.out _ k4).mono ?_); rintro e W5 ⟨A5, c5, rfl, ob5, b5⟩
             have k5 : Kept W4 W5 := Kept.go k4 b5
             have f5 := KS.out W5 k5)
          | (go_at_call 11; (with_reducible refine (HRF.out _ k5).mono ?_); rintro e W6 ⟨rfl, b6⟩
             have k6 : Kept W4 W6 := Kept.go k5 b6
             have ob6 : OwnB W6 W4.heap.size (.slice A5 nr c5) rb := own_off ob5 (Off.of_below b6) (fun _ _ h => h)
             have v6 := HCV.out W6 (.slice A5 nr c5) (own_base0 ob6 (Nat.zero_le _)))
          | (go_at_call 12; (with_reducible refine (HUD.out _ k6).mono ?_); rintro e W7 ⟨rfl, b7⟩
             have k7 : Kept W4 W7 := Kept.go k6 b7)
          | (go_at_call 13; (with_reducible refine (HUF.out _ k7).mono ?_); rintro e W8 ⟨rfl, b8⟩
             have k8 : Kept W4 W8 := Kept.go k7 b8))
        have HZ8 : Hid (OwnZ W8 W4.heap.size (.slice A5 nr c5) nr) := Lib.hid (by
          have h := OwnZ.of ob6 (Nat.le_refl _)
          rw [HNR.out] at h
          exact (h.below b7).below b8)
        have HK8 := Lib.hid k8
        clear ob5 ob6 b5 b6 b7 b8 k4 k5 k6 k7 k8 f1 f5 v6 HCV HRD HRF HUD HUF te
        go_loopw [90] (fun i wr => ∃ j : Nat, j ≤ nr ∧ i = .int .i64 (j : Int) ∧ Hid (Kept W4 wr) ∧ Hid (OwnZ wr W4.heap.size (.slice A5 nr c5) nr)) (fun i _ => nr - (RowKit.intOf i).toNat)
        case atStart => exact ⟨0, Nat.zero_le _, rfl, HK8, HZ8⟩
        case round =>
          clear HK8 HZ8
          obtain ⟨j, hj, rfl, HK, HZ⟩ := hrel
          by_cases hjn : j < nr
          · obtain ⟨g, rfl⟩ := HZ.out.form (by omega)
            obtain ⟨⟨z, hz⟩, hfz⟩ := HZ.out.at hjn
            go_wp2
            go_roundw
            case rel => exact ⟨j + 1, by omega, by go_num, Lib.hid (show Kept W4 _ from HZ.out.grown HK.out (Nat.le_refl _) (Nat.le_refl _)), Lib.hid (HZ.out.turn j _)⟩
            case measure => simp [RowKit.intOf]; omega
          · obtain rfl : j = nr := by omega
            have f1 := KS.out _ HK.out
            go_upto_region 20 with (go_at_call 14; (with_reducible refine (HSP.out _).mono ?_); rintro e Z0 ⟨rfl, z0⟩)
            have k0 : Kept W4 Z0.drew := Kept.drew (Kept.go HK.out z0)
            clear f1
            go_region_held3 (fun V => V.cell? ⟨B, 1, none⟩ = some (.string o.path))
              (first | exact KS.out _ (by assumption))
              (first
                | (go_at_call 16; (with_reducible refine (HL0.out _ k0).mono ?_); rintro e V1 ⟨A1, c1, rfl, rt1, b1⟩
                   have k1 : Kept W4 V1 := Kept.go k0 b1)
                | (go_at_call 17; (with_reducible refine (HF0.out _ k1).mono ?_); rintro e V2 ⟨A2, c2, rfl, rt2, b2⟩
                   have k2 : Kept W4 V2 := Kept.go k1 b2
                   have rs1 : RT V2 A1 l0 := rt1.off (Off.of_below b2) (fun _ _ h => h))
                | (go_at_call 15; (with_reducible refine (same_any V2 HM0.out hm0b rs1 rt2).mono ?_); rintro e V3 ⟨rfl, b3⟩
                   have k3 : Kept W4 V3 := Kept.go k2 b3)
                | (go_at_call 16; (with_reducible refine (HL1.out _ k3).mono ?_); rintro e V4 ⟨A4, c4, rfl, rt4, b4⟩
                   have k4 : Kept W4 V4 := Kept.go k3 b4)
                | (go_at_call 17; (with_reducible refine (HF1.out _ k4).mono ?_); rintro e V5 ⟨A5, c5, rfl, rt5, b5⟩
                   have k5 : Kept W4 V5 := Kept.go k4 b5
                   have rs4 : RT V5 A4 l1 := rt4.off (Off.of_below b5) (fun _ _ h => h))
                | (go_at_call 15; (with_reducible refine (same_any V5 HM1.out hm1b rs4 rt5).mono ?_); rintro e V6 ⟨rfl, b6⟩
                   have k6 : Kept W4 V6 := Kept.go k5 b6)
                | (go_at_call 16; (with_reducible refine (HL2.out _ k6).mono ?_); rintro e V7 ⟨A7, c7, rfl, rt7, b7⟩
                   have k7 : Kept W4 V7 := Kept.go k6 b7)
                | (go_at_call 17; (with_reducible refine (HF2.out _ k7).mono ?_); rintro e V8 ⟨A8, c8, rfl, rt8, b8⟩
                   have k8 : Kept W4 V8 := Kept.go k7 b8
                   have rs7 : RT V8 A7 l2 := rt7.off (Off.of_below b8) (fun _ _ h => h))
                | (go_at_call 15; (with_reducible refine (same_any V8 HM2.out hm2b rs7 rt8).mono ?_); rintro e V9 ⟨rfl, b9⟩
                   have k9 : Kept W4 V9 := Kept.go k8 b9))
            go_wp2_with fail
            go_roundw
            case rel => exact ⟨k + 1, q1, r1, by omega, by omega, by go_num, HD1, HC1, Lib.hid (HB4.out.below k9)⟩
            case measure => simp [RowKit.intOf]; omega
      · have hor : ¬ k < 80 ∨ (k < 80 ∧ ¬ nb ≤ 3000) ∨ (k < 80 ∧ nb ≤ 3000 ∧ ¬ nk ≤ 100) ∨ (k < 80 ∧ nb ≤ 3000 ∧ nk ≤ 100 ∧ ¬ (np ≤ 300 ∧ nt ≤ 300)) := by omega
        have hfin := far_below3 HU2.out HBk.out.off HSW.out
        have HF := Lib.hid hfin
        clear hall hfin
        rcases hor with h1 | ⟨h1, h2⟩ | ⟨h1, h2, h3⟩ | ⟨h1, h2, h3, h4⟩
        · go_wp2
          go_ret
          exact ⟨rfl, Kept.go (show Kept w wr from HF.out) ((Below.refl _ _).alloc (Nat.le_refl _) _)⟩
        · go_wp2
          go_ret
          exact ⟨rfl, Kept.go (show Kept w wr from HF.out) ((Below.refl _ _).alloc (Nat.le_refl _) _)⟩
        · go_wp2
          go_ret
          exact ⟨rfl, Kept.go (show Kept w wr from HF.out) ((Below.refl _ _).alloc (Nat.le_refl _) _)⟩
        · have hmx : (300 : Int) < max (np : Int) (nt : Int) := by omega
          go_wp2
          go_ret
          exact ⟨rfl, Kept.go (show Kept w wr from HF.out) ((Below.refl _ _).alloc (Nat.le_refl _) _)⟩
    · obtain rfl : k = n := by omega
      go_wp2
      go_ret
      exact ⟨rfl, far_below3 HU2.out HBk.out.off HSW.out⟩
end Go.Proofs.YtbodkjifpmencaaGreat
