/-
  The walk of the law VfsCalm. No conditions.
-/
import Derived.Test.YtbodkjifpmencaaVZN
namespace Go.Proofs.Ytbodkjifpmencaa
open Go.RowKit
open Go.Lib

/-- The four directories in their row. -/
def Dirs (W : World) (bd : Nat) : Prop := W.cell? ⟨bd, 0, none⟩ = some (.string ⟨#[]⟩) ∧ W.cell? ⟨bd, 1, none⟩ = some (.string ⟨#[100]⟩) ∧ W.cell? ⟨bd, 2, none⟩ = some (.string ⟨#[101]⟩) ∧ W.cell? ⟨bd, 3, none⟩ = some (.string ⟨#[122]⟩)
theorem Dirs.off {F : Nat → Prop} {W W' : World} {bd : Nat} (h : Dirs W bd) (ho : Off F W W') (hF : ¬ F bd) : Dirs W' bd := ⟨ho.cell h.1 hF, ho.cell h.2.1 hF, ho.cell h.2.2.1 hF, ho.cell h.2.2.2 hF⟩
theorem Dirs.at {W : World} {bd : Nat} (h : Dirs W bd) (k : Nat) (hk : k < 4) : W.cell? ⟨bd, k, none⟩ = some (.string (bs (dirs4.getD k []))) := by
  have hh : k = 0 ∨ k = 1 ∨ k = 2 ∨ k = 3 := by omega
  rcases hh with rfl | rfl | rfl | rfl
  · exact h.1
  · exact h.2.1
  · exact h.2.2.1
  · exact h.2.2.2
theorem far_below {S : Nat → Prop} {w w3 W : World} (hU : Below w.heap.size w w3) (ho : Off (fun b => ¬ S b) w3 W) (hS : ∀ b, b < w.heap.size → S b) : Below w.heap.size w W :=
  hU.trans ⟨ho.os, ho.tape, ho.output, ho.size, fun k hk => ho.block k (Nat.lt_of_lt_of_le hk hU.size) (fun h => h (hS k hk))⟩
theorem OpOk.off {F : Nat → Prop} {w W : World} {o : OpR} (h : OpOk w o) (ho : Off F w W) (hF : ∀ b, b < w.heap.size → ¬ F b) : OpOk W o := by
  refine ⟨h.kind, h.path, h.tgt, h.n, fun hz => ?_, fun hz => ?_, h.rg, h.cap⟩
  · obtain ⟨b, off, he, hb, hc⟩ := h.rb hz
    exact ⟨b, off, he, Nat.lt_of_lt_of_le hb ho.size, fun j hj => ho.cell (hc j hj) (hF b hb)⟩
  · obtain ⟨b, off, he, hb, hc⟩ := h.ri hz
    exact ⟨b, off, he, Nat.lt_of_lt_of_le hb ho.size, fun j hj => ho.cell (hc j hj) (hF b hb)⟩
theorem OpOk.low {w : World} {o : OpR} (h : OpOk w o) : 0 < o.b.length → ∀ x, aBlock o.bA = some x → x < w.heap.size := fun hz x hx => by
  obtain ⟨b, off, he, hb, _⟩ := h.rb hz
  rw [he] at hx
  have : b = x := Option.some.inj hx
  omega
set_option maxRecDepth 100000 in
set_option maxHeartbeats 20000000 in
theorem law_calm (os : List OpR) (ks : List Int) (A Ak : Option Addr) (c ck n nk : Nat) (w : World) (hn : os.length = n) (hn63 : n ≤ 9223372036854775807) (hO : RO w A os) (hok : ∀ o ∈ os, OpOk w o) (hnk : ks.length = nk) (hk60 : nk ≤ 60) (hck : nk ≤ ck) (hK : RI w Ak ks) (hRg : Range ks) :
    Calls Try.prog 5 #[.slice A n c, .slice Ak nk ck] w fun e w' => e = .returned (.bool true) ∧ Below w.heap.size w w' := by
  have HO := Lib.hid hO
  have HOK := Lib.hid hok
  have HK := Lib.hid hK
  have HRG := Lib.hid hRg
  have HN := Lib.hid hn
  have HNK := Lib.hid hnk
  clear hO hok hK hRg hn hnk
  go_enter Try.func5, Try.ntmps5
  go_wp2_with (first
    | (go_at_call 6; (with_reducible refine (first_any _).mono ?_); rintro e w1 ⟨rfl, b1⟩)
    | (go_at_call 9; (with_reducible refine (mine_new (w0 := w) 1048576 _ b1).mono ?_); rintro e w2 ⟨D, rfl, M0⟩))
  obtain ⟨bd, hbd⟩ : ∃ b, w2.heap.size = b := ⟨_, rfl⟩
  obtain ⟨w3, hw3⟩ : ∃ W, w2.alloc (.cells #[.string ⟨#[]⟩, .string ⟨#[100]⟩, .string ⟨#[101]⟩, .string ⟨#[122]⟩] 9) = W := ⟨_, rfl⟩
  have hB := Blk.new (.cells #[.string ⟨#[]⟩, .string ⟨#[100]⟩, .string ⟨#[101]⟩, .string ⟨#[122]⟩] 9 (0, 0)) w2
  have hbw : Below w2.heap.size w2 w3 := by rw [← hw3]; exact (Below.refl _ _).alloc (Nat.le_refl _) _
  have hz3 : w3.heap.size = bd + 1 := by rw [← hw3, ← hbd]; simp
  rw [hw3, hbd] at hB
  have hd : Dirs w3 bd := ⟨hB.cell 0, hB.cell 1, hB.cell 2, hB.cell 3⟩
  have hM := M0.side hbw
  have hu := M0.under
  have hu3 : Below w.heap.size w w3 := hu.trans (hbw.mono hu.size)
  obtain ⟨S, hS⟩ : ∃ S : Nat → Prop, (fun b => b < w.heap.size ∨ (w2.heap.size ≤ b ∧ b < w3.heap.size)) = S := ⟨_, rfl⟩
  rw [hS] at hM
  have hSd : S bd := by rw [← hS]; exact .inr ⟨by omega, by omega⟩
  have hSw : ∀ b, b < w.heap.size → S b := fun b hb => by rw [← hS]; exact .inl hb
  have hlt : ∀ b, S b → b < w3.heap.size := fun b hb => by rw [← hS] at hb; rcases hb with hb | hb; (have := hu3.size; omega); exact hb.2
  have HD := Lib.hid hd
  have HM := Lib.hid hM
  have HSD := Lib.hid hSd
  have HSW := Lib.hid hSw
  have HLT := Lib.hid hlt
  have HU3 := Lib.hid hu3
  rw [hbd] at *
  rw [hw3]
  clear hB hbw hd hM hu hu3 hSd hSw hlt M0 hw3 hS
  go_loopw [37] (fun i wr => ∃ k q, k ≤ n ∧ i = .int .i64 (k : Int) ∧ Hid (Scr q (min k 60)) ∧ Hid (MineS S w3 D q wr)) (fun i _ => n - (RowKit.intOf i).toNat)
  case atStart => exact ⟨0, _, Nat.zero_le _, rfl, Lib.hid Scr.new, HM⟩
  case round =>
    obtain ⟨k, q, hk, rfl, HSc, HMk⟩ := hrel
    by_cases hlt : k < n
    · have hkl : k < os.length := by rw [HN.out]; exact hlt
      obtain ⟨b, off, hAe, hbl, hcs⟩ := HO.out (by omega)
      have hO := HOK.out os[k] (List.getElem_mem hkl)
      obtain ⟨o, ho⟩ : ∃ o, os[k] = o := ⟨_, rfl⟩
      have hc := hcs k hkl
      rw [ho] at hc hO
      have hat : ∀ i v, i < 6 → (opCells o)[i]? = some v → wr.cell? ⟨b, off + k * 6 + i, none⟩ = some v := fun i v hi hv =>
        HMk.out.off.cell ((Off.of_below HU3.out).cell ((hc i hi).trans hv) (fun h => h)) (fun h => h (HSW.out b hbl))
      have d0 : wr.cell? ⟨b, off + k * 6, none⟩ = some (.int .i64 o.kind) := hat 0 _ (by decide) rfl
      have d1 : wr.cell? ⟨b, off + k * 6 + 1, none⟩ = some (.string o.path) := hat 1 _ (by decide) rfl
      have d2 : wr.cell? ⟨b, off + k * 6 + 2, none⟩ = some (.string o.tgt) := hat 2 _ (by decide) rfl
      have d3 : wr.cell? ⟨b, off + k * 6 + 3, none⟩ = some (.slice o.bA o.b.length o.bc) := hat 3 _ (by decide) rfl
      have d4 : wr.cell? ⟨b, off + k * 6 + 4, none⟩ = some (.int .i64 o.n) := hat 4 _ (by decide) rfl
      have d5 : wr.cell? ⟨b, off + k * 6 + 5, none⟩ = some (.slice o.kA o.ks.length o.kc) := hat 5 _ (by decide) rfl
      subst hAe
      have HOO := Lib.hid hO
      clear hat hc hcs hO ho
      obtain ⟨nb, hnb⟩ : ∃ x, o.b.length = x := ⟨_, rfl⟩
      obtain ⟨np, hnp⟩ : ∃ x, o.path.size = x := ⟨_, rfl⟩
      obtain ⟨nt, hnt⟩ : ∃ x, o.tgt.size = x := ⟨_, rfl⟩
      obtain ⟨m, hm⟩ : ∃ x, (IntKind.u64.wrap o.kind).tmod 8 = x := ⟨_, rfl⟩
      rw [hnb] at d3
      by_cases hall : k < 60 ∧ nb < 1000 ∧ np < 200 ∧ nt < 200 ∧ m < 6
      · obtain ⟨t1, t2, t3, t4, t5⟩ := hall
        have htry : ∀ W, Below wr.heap.size wr W → Calls Try.prog 17 #[.pointer (some ⟨D, 0, none⟩), .agg #[.int .i64 o.kind, .string o.path, .string o.tgt, .slice o.bA nb o.bc, .int .i64 o.n, .slice o.kA o.ks.length o.kc]] W fun e w' => e = .returned (.int .i64 (tryQ q o).1) ∧ MineS S w3 D (tryQ q o).2 w' := fun W hb => by
          have hMW := HMk.out.below HLT.out hb
          have hokW : OpOk W o := HOO.out.off (((Off.of_below HU3.out).mono (fun _ h => h.elim)).trans hMW.off (fun b hb' => by
            by_cases hbw : b < w.heap.size
            · exact absurd (HSW.out b hbw) hb'
            · exact .inr (by omega))) (fun b _ h => h)
          have h := side_try HLT.out hMW HSc.out.small o hokW (fun hz x hx => HSW.out x (HOO.out.low hz x hx)) (by rw [hnb]; omega) (by omega) (by omega)
          unfold opAgg at h
          rw [hnb] at h
          exact h
        have HTRY := Lib.hid htry
        have HNB := Lib.hid hnb
        clear htry hnb
        go_wp2_with (go_at_call 17; (with_reducible refine (HTRY.out _ ((Below.refl _ _).alloc (Nat.le_refl _) _)).mono ?_); rintro e w5 ⟨rfl, M5⟩)
        go_roundw
        case rel => exact ⟨k + 1, _, by omega, by go_num, Lib.hid ((HSc.out.act o (by rw [HNB.out]; omega)).mono (by omega)), Lib.hid M5⟩
        case measure => simp [RowKit.intOf]; omega
      · have hor : ¬ k < 60 ∨ (k < 60 ∧ ¬ nb < 1000) ∨ (k < 60 ∧ nb < 1000 ∧ ¬ np < 200) ∨ (k < 60 ∧ nb < 1000 ∧ np < 200 ∧ ¬ nt < 200) ∨ (k < 60 ∧ nb < 1000 ∧ np < 200 ∧ nt < 200 ∧ ¬ m < 6) := by omega
        clear hall
        rcases hor with h1 | ⟨h1, h2⟩ | ⟨h1, h2, h3⟩ | ⟨h1, h2, h3, h4⟩ | ⟨h1, h2, h3, h4, h5⟩
        · go_wp2
          go_roundw
          case rel => exact ⟨k + 1, q, by omega, by go_num, Lib.hid (HSc.out.mono (by omega)), Lib.hid (HMk.out.below HLT.out ((Below.refl _ _).alloc (Nat.le_refl _) _))⟩
          case measure => simp [RowKit.intOf]; omega
        · go_wp2
          go_roundw
          case rel => exact ⟨k + 1, q, by omega, by go_num, Lib.hid (HSc.out.mono (by omega)), Lib.hid (HMk.out.below HLT.out ((Below.refl _ _).alloc (Nat.le_refl _) _))⟩
          case measure => simp [RowKit.intOf]; omega
        · go_wp2
          go_roundw
          case rel => exact ⟨k + 1, q, by omega, by go_num, Lib.hid (HSc.out.mono (by omega)), Lib.hid (HMk.out.below HLT.out ((Below.refl _ _).alloc (Nat.le_refl _) _))⟩
          case measure => simp [RowKit.intOf]; omega
        · go_wp2
          go_roundw
          case rel => exact ⟨k + 1, q, by omega, by go_num, Lib.hid (HSc.out.mono (by omega)), Lib.hid (HMk.out.below HLT.out ((Below.refl _ _).alloc (Nat.le_refl _) _))⟩
          case measure => simp [RowKit.intOf]; omega
        · go_wp2
          go_roundw
          case rel => exact ⟨k + 1, q, by omega, by go_num, Lib.hid (HSc.out.mono (by omega)), Lib.hid (HMk.out.below HLT.out ((Below.refl _ _).alloc (Nat.le_refl _) _))⟩
          case measure => simp [RowKit.intOf]; omega
    · obtain rfl : k = n := by omega
      have hRK : ∀ W, Off (fun b => ¬ S b) w3 W → RI W Ak ks := fun W hW hz => by
        obtain ⟨b, off, he, hb, hc⟩ := HK.out hz
        refine ⟨b, off, he, by have := HU3.out.size; have := hW.size; omega, fun j hj => hW.cell ((Off.of_below HU3.out).cell (hc j hj) (fun h => h)) (fun h => h (HSW.out b hb))⟩
      have hKS : 0 < ks.length → ∀ x, aBlock Ak = some x → S x := fun hz x hx => by
        obtain ⟨b, off, he, hb, _⟩ := HK.out hz
        rw [he] at hx
        have : b = x := Option.some.inj hx
        subst this
        exact HSW.out b hb
      obtain ⟨q0, hq0⟩ : ∃ x, crashQ q ks = x := ⟨_, rfl⟩
      have hSt := HSc.out.crash ks
      have hcr := side_crash HLT.out HMk.out (Below.refl _ _) HSc.out.small (by omega) ks nk HNK.out Ak ck (hRK _ HMk.out.off) HRG.out (by have := HNK.out; omega) (by have := HNK.out; omega) (fun hz x hx => .inl (hKS hz x hx)) hq0
      rw [hq0] at hSt
      have HST := Lib.hid hSt
      have HCR := Lib.hid hcr
      have HRK := Lib.hid hRK
      have HKS := Lib.hid hKS
      clear hcr hSt hRK hKS hq0
      go_wp2_with (go_at_call 15; (with_reducible refine HCR.out.mono ?_); rintro e w4 ⟨rfl, M4⟩)
      have HM4 := Lib.hid M4
      clear M4
      go_loopw [76] (fun i wr => ∃ (r : Nat) (q1 : Q), r ≤ 2 ∧ i = .int .i64 (r : Int) ∧ Hid (Still q1 600000 ∧ q1.names = q0.names ∧ totalB q1 ≤ 59940 + 264000 * r) ∧ Hid (MineS S w3 D q1 wr)) (fun i _ => 2 - (RowKit.intOf i).toNat)
      case atStart => exact ⟨0, q0, by omega, rfl, Lib.hid ⟨⟨HST.out.1.calm, HST.out.1.small.mono (by omega), HST.out.1.nodup, HST.out.1.right, HST.out.1.room⟩, rfl, by have := HST.out.2; omega⟩, HM4⟩
      case round =>
        clear HM4
        obtain ⟨r, q1, hr, rfl, HSt, HM1⟩ := hrel
        by_cases hr2 : r < 2
        · have hnm : q1.names.length ≤ 66000 := by rw [HSt.out.2.1]; exact Nat.le_trans HST.out.1.small.nn (by omega)
          have HNM := Lib.hid hnm
          clear hnm
          have hri : (r : Int) < 2 := by omega
          go_wp2
          go_loopw [9, 10, 80] (fun u9 u10 i wr => ∃ (k : Nat), k ≤ 4 ∧ i = .int .i64 (k : Int) ∧ Hid (Gat S w3 D q1 u9 u10 (gathN q1 k) ((gathN q1 k).map (textQ q1)) wr)) (fun _ _ i _ => 4 - (RowKit.intOf i).toNat)
          case atStart => exact ⟨0, by omega, rfl, Lib.hid (Gat.start HLT.out HM1.out)⟩
          case round =>
            clear HM1
            obtain ⟨k, hk, rfl, HG⟩ := hrel
            by_cases hk4 : k < 4
            · have hki : (k : Int) < 4 := by omega
              have hdc := HD.out.at k hk4
              have hdr := HG.out.off.cell hdc (fun h => h HSD.out)
              obtain ⟨ls, hls⟩ : ∃ x, listQ q1 (dirs4.getD k []) = x := ⟨_, rfl⟩
              obtain ⟨dk, hdk⟩ : ∃ x, bs (dirs4.getD k []) = x := ⟨_, rfl⟩
              rw [hdk] at hdr
              obtain ⟨S', _, hlt', M', _⟩ := HG.out.call
              have hL := side_list hlt' M' HSt.out.1.small (by omega) dk ls (by rw [← hdk, bs_list]; exact hls)
              have hlen := listQ_len q1 (dirs4.getD k [])
              rw [hls] at hlen
              obtain ⟨m, hm⟩ : ∃ x, ls.length = x := ⟨_, rfl⟩
              rw [hm] at hL
              have hm66 : m ≤ 66000 := by have := HNM.out; omega
              have HL := Lib.hid hL
              have HLS := Lib.hid hls
              have HML := Lib.hid hm
              clear hdc hL M' hlt' hls hdk hlen hm
              go_wp2_with (go_at_call 18; (with_reducible refine HL.out.mono ?_); rintro e w5 ⟨A, c5, rfl, hRT, hnew, hb5, _⟩)
              have hgr := HG.out.grow hb5
              obtain ⟨S1, hS1⟩ : ∃ S1 : Nat → Prop, (fun b => S b ∨ (wr.heap.size ≤ b ∧ b < w5.heap.size)) = S1 := ⟨_, rfl⟩
              have hz5 := hb5.size
              have hlt1 : ∀ b, S1 b → b < w5.heap.size := fun b hb => by
                rw [← hS1] at hb
                rcases hb with hb | hb
                · have := HLT.out b hb; have := HG.out.off.size; omega
                · exact hb.2
              have hnew1 : ∀ b, aBlock A = some b → S1 b := fun b hb => by rw [← hS1]; exact .inr (hnew b hb)
              have hback : ∀ vN vT ns ts V, Gat S1 w5 D q1 vN vT ns ts V → Gat S w3 D q1 vN vT ns ts V := fun vN vT ns ts V G => by
                rw [← hS1] at G
                exact G.back hgr.2
              rw [hS1] at hgr
              have HG5 := Lib.hid hgr.1
              have HLT1 := Lib.hid hlt1
              have HNEW := Lib.hid hnew1
              have HBACK := Lib.hid hback
              have HRT := Lib.hid hRT
              clear hgr hz5 hlt1 hnew hnew1 hback hRT hb5 hS1 HG hdr HL
              go_loopw [9, 10, 88] (fun u9 u10 i wr => ∃ (j : Nat), j ≤ m ∧ i = .int .i64 (j : Int) ∧ Hid (Gat S1 w5 D q1 u9 u10 (gathN q1 k ++ ls.take j) ((gathN q1 k ++ ls.take j).map (textQ q1)) wr)) (fun _ _ i _ => m - (RowKit.intOf i).toNat)
              case atStart => exact ⟨0, by omega, rfl, by rw [List.take_zero, List.append_nil]; exact HG5⟩
              case round =>
                clear HG5
                obtain ⟨j, hj, rfl, HG⟩ := hrel
                by_cases hjm : j < m
                · have hjl : j < ls.length := by rw [HML.out]; exact hjm
                  obtain ⟨b, off, rfl, hbl, hcs⟩ := HRT.out (by omega)
                  have hpc := HG.out.off.cell (hcs j hjl) (fun h => h (HNEW.out b rfl))
                  have hpm : ls[j] ∈ listQ q1 (dirs4.getD k []) := by rw [HLS.out]; exact List.getElem_mem hjl
                  have hrd := listQ_read hpm
                  have hpk := listQ_mem hpm
                  obtain ⟨p, hp⟩ : ∃ x, ls[j] = x := ⟨_, rfl⟩
                  rw [hp] at hpc hrd hpk
                  have hps : (bs p).size ≤ 161 := by
                    obtain ⟨k', hk'⟩ := look_of_key hpk
                    rw [bs_size]; exact (HSt.out.1.small.kn _ (look_mem hk')).1
                  have htk : gathN q1 k ++ ls.take (j + 1) = (gathN q1 k ++ ls.take j) ++ [p] := by
                    rw [List.take_succ_eq_append_getElem hjl, hp, List.append_assoc]
                  have hgl : (gathN q1 k ++ ls.take j).length + 1 ≤ 1000000 := by
                    have h1 := gath_len q1 k hk
                    have h2 := HNM.out
                    have h3 : k * q1.names.length ≤ 4 * 66000 := Nat.mul_le_mul hk h2
                    rw [List.length_append, List.length_take]; omega
                  obtain ⟨S', _, hlt', M', hcb⟩ := HG.out.call
                  have hR := side_read hlt' M' HSt.out.1.small (by omega) (bs p) (by omega) (textQ q1 p) (by rw [bs_list]; exact hrd)
                  obtain ⟨P, hP⟩ : ∃ x, bs p = x := ⟨_, rfl⟩
                  rw [hP] at hpc hR
                  have HR := Lib.hid hR
                  have HP := Lib.hid hP
                  have HTK := Lib.hid htk
                  have HCB := Lib.hid hcb
                  clear hcs hrd hpk hpm hp hps htk hR hP M' hlt' hcb
                  go_wp2_with (go_at_call 16; (with_reducible refine HR.out.mono ?_); rintro e w6 ⟨v6, rfl, hv6, hb6, M6⟩)
                  have G6 := HCB.out _ _ M6
                  have hN6 := G6.ownN
                  have hT6 := G6.ownT
                  have hNT6 : ∀ b, u9.ownBlock = some b → u10.ownBlock ≠ some b := fun b hb => G6.ne hb
                  have hvN : ∀ b, v6.ownBlock = some b → u9.ownBlock ≠ some b ∧ u10.ownBlock ≠ some b := fun b hb => by
                    have h1 := (World.ownsRow.lt hv6 b hb).1
                    exact ⟨fun e => by have := HG.out.ownN.lt e; omega, fun e => by have := HG.out.ownT.lt e; omega⟩
                  have hv0 : OwnB w6 0 v6 (textQ q1 p) := own_base hv6 (fun _ _ => Nat.zero_le _)
                  have HG6 := Lib.hid G6
                  clear G6 M6 HG hv6 HCB
                  rw [← HP.out]
                  refine regG (by kernel_rfl) (by simp) (by rfl) (by rfl) (by rfl) (by rfl) hN6 hT6 hNT6 hv0 hvN hgl (by rw [List.length_map]; exact hgl) ?_
                  intro x1 x2 vN vT w7 hB
                  have HG7 := Lib.hid (Gat.both HLT1.out HG6.out hB)
                  clear hB hN6 hT6 hNT6 hv0 hvN HG6
                  simp only [Act.put, List.setIfInBounds_toArray, List.set_cons_zero, List.set_cons_succ]
                  go_wp2
                  go_roundw
                  case rel => exact ⟨j + 1, by omega, by go_num, by rw [HTK.out, List.map_append]; exact HG7⟩
                  case measure => simp [RowKit.intOf]; omega
                · obtain rfl : j = m := by omega
                  go_wp2
                  go_roundw
                  case rel => exact ⟨k + 1, by omega, by go_num, Lib.hid (by
                    have h := HBACK.out _ _ _ _ _ HG.out
                    rw [List.take_of_length_le (by rw [HML.out]; omega), ← HLS.out, ← gath_succ q1 k hk4] at h
                    exact h)⟩
                  case measure => simp [RowKit.intOf]; omega
            · obtain rfl : k = 4 := by omega
              obtain ⟨q2, hq2⟩ : ∃ x, crashQ q1 ks = x := ⟨_, rfl⟩
              obtain ⟨ag1, ag2, ag3⟩ := HSt.out.1.again ks
              rw [hq2] at ag1 ag2 ag3
              obtain ⟨S', hSS, hlt', M', hcb⟩ := HG.out.call
              have hcr := side_crash hlt' M' (Below.refl _ _) HSt.out.1.small (by omega) ks nk HNK.out Ak ck (HRK.out _ HG.out.off) HRG.out (by have := HNK.out; omega) (by have := HNK.out; omega) (fun hz x hx => .inl (hSS _ (HKS.out hz x hx))) hq2
              obtain ⟨G, hG⟩ : ∃ x, gathN q1 4 = x := ⟨_, rfl⟩
              obtain ⟨T, hT⟩ : ∃ x, G.map (textQ q1) = x := ⟨_, rfl⟩
              have hG2 : gathN q2 4 = G := by rw [gath_same ag2]; exact hG
              have hT2 : G.map (textQ q2) = T := by rw [← hT]; exact List.map_congr_left fun p _ => textQ_same ag2 ag3 p
              have hGm : ∀ p ∈ G, p ∈ q2.names.map (·.1) := fun p hp => by rw [← hG2] at hp; exact gath_mem hp
              obtain ⟨N, hN⟩ : ∃ x, G.length = x := ⟨_, rfl⟩
              have hNb : N ≤ 264000 := by
                have h1 := gath_len q1 4 (by omega)
                have h2 := HNM.out
                rw [hG, hN] at h1
                omega
              have hTN : T.length = N := by rw [← hT, List.length_map]; exact hN
              rw [hG, hT] at HG hcb
              obtain ⟨A9, c9, rfl, hA9, _⟩ := HG.out.ownN.form
              obtain ⟨A10, c10, rfl, hA10, _⟩ := HG.out.ownT.form
              rw [hTN] at HG hcb ⊢
              rw [hN] at HG hcb ⊢
              have ht2 : totalB q2 = totalB q1 := by unfold totalB; rw [ag3]
              have HS2 : Hid (Still q2 600000 ∧ q2.names = q0.names ∧ totalB q2 ≤ 59940 + 264000 * r) := Lib.hid ⟨ag1, ag2.trans HSt.out.2.1, by rw [ht2]; exact HSt.out.2.2⟩
              have HCR2 := Lib.hid hcr
              have HCB := Lib.hid hcb
              have HG2 := Lib.hid hG2
              have HT2 := Lib.hid hT2
              have HGM := Lib.hid hGm
              have HNN := Lib.hid hN
              have HTN := Lib.hid hTN
              have HNM2 := Lib.hid (show q2.names.length ≤ 66000 by rw [ag2]; exact HNM.out)
              clear HSt HNM hq2 ag1 ag2 ag3 hSS hlt' M' hcr hcb hG hT hG2 hT2 hGm hN hTN hA9 hA10 ht2 HG
              go_wp2_with (go_at_call 15; (with_reducible refine HCR2.out.mono ?_); rintro e w6 ⟨rfl, M6⟩)
              have HG6 := Lib.hid (HCB.out _ _ M6)
              clear M6 HCB HCR2
              go_loopw [17, 114] (fun n17 i wr => ∃ (k : Nat), k ≤ 4 ∧ i = .int .i64 (k : Int) ∧ n17 = .int .i64 ((gathN q2 k).length : Int) ∧ Hid (Gat S w3 D q2 (.slice A9 N c9) (.slice A10 N c10) G T wr)) (fun _ i _ => 4 - (RowKit.intOf i).toNat)
              case atStart => exact ⟨0, by omega, rfl, rfl, HG6⟩
              case round =>
                clear HG6
                obtain ⟨k, hk, rfl, rfl, HG⟩ := hrel
                by_cases hk4 : k < 4
                · have hki : (k : Int) < 4 := by omega
                  have hdc := HD.out.at k hk4
                  have hdr := HG.out.off.cell hdc (fun h => h HSD.out)
                  obtain ⟨ls, hls⟩ : ∃ x, listQ q2 (dirs4.getD k []) = x := ⟨_, rfl⟩
                  obtain ⟨dk, hdk⟩ : ∃ x, bs (dirs4.getD k []) = x := ⟨_, rfl⟩
                  rw [hdk] at hdr
                  obtain ⟨S', _, hlt', M', _⟩ := HG.out.call
                  have hL := side_list hlt' M' HS2.out.1.small (by omega) dk ls (by rw [← hdk, bs_list]; exact hls)
                  have hlen := listQ_len q2 (dirs4.getD k [])
                  rw [hls] at hlen
                  obtain ⟨m, hm⟩ : ∃ x, ls.length = x := ⟨_, rfl⟩
                  rw [hm] at hL
                  have hm66 : m ≤ 66000 := by have := HNM2.out; omega
                  obtain ⟨n0, hn0⟩ : ∃ x, (gathN q2 k).length = x := ⟨_, rfl⟩
                  have hn0b : n0 ≤ 264000 := by
                    have h1 := gath_len q2 k hk
                    have h2 := HNM2.out
                    have h3 : k * q2.names.length ≤ 4 * 66000 := Nat.mul_le_mul hk h2
                    omega
                  rw [hn0]
                  have hat : ∀ j (hj : j < ls.length), G[n0 + j]? = some ls[j] := fun j hj => by
                    have h := gath_at q2 k j hk4 (by rw [hls]; exact hj)
                    rw [HG2.out, hn0] at h
                    rw [h]
                    congr 1
                    simp only [hls]
                  have hnx : (gathN q2 (k + 1)).length = n0 + m := by rw [gath_succ q2 k hk4, List.length_append, hn0, hls, hm]
                  have HL := Lib.hid hL
                  have HLS := Lib.hid hls
                  have HML := Lib.hid hm
                  have HAT := Lib.hid hat
                  have HNX := Lib.hid hnx
                  clear hdc hL M' hlt' hls hdk hlen hm hn0 hat hnx
                  go_wp2_with (go_at_call 18; (with_reducible refine HL.out.mono ?_); rintro e w5 ⟨A, c5, rfl, hRT, hnew, hb5, _⟩)
                  have hgr := HG.out.grow hb5
                  obtain ⟨S1, hS1⟩ : ∃ S1 : Nat → Prop, (fun b => S b ∨ (wr.heap.size ≤ b ∧ b < w5.heap.size)) = S1 := ⟨_, rfl⟩
                  have hnew1 : ∀ b, aBlock A = some b → S1 b := fun b hb => by rw [← hS1]; exact .inr (hnew b hb)
                  have hback : ∀ V, Gat S1 w5 D q2 (.slice A9 N c9) (.slice A10 N c10) G T V → Gat S w3 D q2 (.slice A9 N c9) (.slice A10 N c10) G T V := fun V G => by
                    rw [← hS1] at G
                    exact G.back hgr.2
                  rw [hS1] at hgr
                  have HG5 := Lib.hid hgr.1
                  have HNEW := Lib.hid hnew1
                  have HBACK := Lib.hid hback
                  have HRT := Lib.hid hRT
                  clear hgr hnew hnew1 hback hRT hb5 hS1 HG hdr HL
                  go_loopw [17, 122] (fun n17 i wr => ∃ (j : Nat), j ≤ m ∧ i = .int .i64 (j : Int) ∧ n17 = .int .i64 ((n0 + j : Nat) : Int) ∧ Hid (Gat S1 w5 D q2 (.slice A9 N c9) (.slice A10 N c10) G T wr)) (fun _ i _ => m - (RowKit.intOf i).toNat)
                  case atStart => exact ⟨0, by omega, rfl, rfl, HG5⟩
                  case round =>
                    clear HG5
                    obtain ⟨j, hj, rfl, rfl, HG⟩ := hrel
                    by_cases hjm : j < m
                    · have hjl : j < ls.length := by rw [HML.out]; exact hjm
                      obtain ⟨b, off, rfl, hbl, hcs⟩ := HRT.out (by omega)
                      have hpc := HG.out.off.cell (hcs j hjl) (fun h => h (HNEW.out b rfl))
                      have hpm : ls[j] ∈ listQ q2 (dirs4.getD k []) := by rw [HLS.out]; exact List.getElem_mem hjl
                      have hrd := listQ_read hpm
                      have hpk := listQ_mem hpm
                      have hat := HAT.out j hjl
                      obtain ⟨p, hp⟩ : ∃ x, ls[j] = x := ⟨_, rfl⟩
                      rw [hp] at hpc hrd hpk hat
                      have hps : (bs p).size ≤ 161 := by
                        obtain ⟨k', hk'⟩ := look_of_key hpk
                        rw [bs_size]; exact (HS2.out.1.small.kn _ (look_mem hk')).1
                      obtain ⟨n, hn⟩ : ∃ x, n0 + j = x := ⟨_, rfl⟩
                      rw [hn] at hat ⊢
                      obtain ⟨hnG, hGn⟩ := List.getElem?_eq_some_iff.1 hat
                      have hnN : n < N := by rw [← HNN.out]; exact hnG
                      obtain ⟨gN, cN, e9, _, hcN⟩ := HG.out.ownN.at0 (by omega)
                      obtain ⟨gT, cT, e10, _, hcT⟩ := HG.out.ownT.at0 (by rw [HTN.out]; omega)
                      have f9 : A9 = some ⟨gN, 0, none⟩ := by injection e9
                      have f10 : A10 = some ⟨gT, 0, none⟩ := by injection e10
                      clear e9 e10
                      have k9 := hcN n hnG
                      have hnT : n < T.length := by rw [HTN.out]; exact hnN
                      have k10 := hcT n hnT
                      have hTn : T[n] = textQ q2 p := by
                        have h : (G.map (textQ q2))[n]? = some (textQ q2 p) := by rw [List.getElem?_map, hat]; rfl
                        rw [HT2.out] at h
                        exact (List.getElem?_eq_some_iff.1 h).2
                      rw [hGn] at k9
                      rw [hTn] at k10
                      obtain ⟨S', _, hlt', M', hcb⟩ := HG.out.call
                      have hR := side_read hlt' M' HS2.out.1.small (by omega) (bs p) (by omega) (textQ q2 p) (by rw [bs_list]; exact hrd)
                      obtain ⟨P, hP⟩ : ∃ x, bs p = x := ⟨_, rfl⟩
                      rw [hP] at hpc hR k9
                      have hbk : ∀ W, Below wr.heap.size wr W → W.cell? ⟨gN, 0 + n, none⟩ = some (.string P) ∧ W.cell? ⟨gT, 0 + n, none⟩ = some (.string (bs (textQ q2 p))) := fun W hb => ⟨(Off.of_below hb).cell k9 (fun h => h), (Off.of_below hb).cell k10 (fun h => h)⟩
                      have HR := Lib.hid hR
                      have HCB := Lib.hid hcb
                      have HBK := Lib.hid hbk
                      have HNE := Lib.hid (show n0 + (j + 1) = n + 1 by omega)
                      have hnb : n ≤ 600000 := by omega
                      subst f9 f10
                      clear hcs hrd hpk hpm hp hps hR hP M' hlt' hcb hat hnG hGn hcN hcT k9 hnT k10 hTn hbk hn
                      go_wp2_with (go_at_call 16; (with_reducible refine HR.out.mono ?_); rintro e w6 ⟨v6, rfl, hv6, hb6, M6⟩)
                      have HG6 := Lib.hid (HCB.out _ _ M6)
                      obtain ⟨k9, k10⟩ := HBK.out _ hb6
                      have hv0 : OwnB w6 0 v6 (textQ q2 p) := own_base hv6 (fun _ _ => Nat.zero_le _)
                      clear M6 HG hv6 HCB HBK
                      refine regC (by kernel_rfl) (by simp) (by rfl) (by rfl) (by rfl) (by rfl) (by rfl) hnN rfl k9 k10 hv0 ?_
                      clear k9 k10 hv0
                      simp only [Act.put, List.setIfInBounds_toArray, List.set_cons_zero, List.set_cons_succ]
                      go_wp2
                      go_roundw
                      case rel => exact ⟨j + 1, by omega, by go_num, by rw [HNE.out]; go_num, Lib.hid (HG6.out.below (below_drewN (Below.refl _ _) 1))⟩
                      case measure => simp [RowKit.intOf]; omega
                    · obtain rfl : j = m := by omega
                      go_wp2
                      go_roundw
                      case rel => exact ⟨k + 1, by omega, by go_num, by rw [HNX.out], Lib.hid (HBACK.out _ HG.out)⟩
                      case measure => simp [RowKit.intOf]; omega
                · have h4 : k = 4 := by omega
                  have hki : ¬ ((k : Int) < 4) := by omega
                  have hn17 : (gathN q2 k).length = N := by rw [h4, HG2.out, HNN.out]
                  rw [hn17]
                  clear h4 hk4 hn17
                  go_wp2
                  go_loopw [163] (fun i wr => ∃ (j : Nat) (qj : Q), j ≤ N ∧ i = .int .i64 (j : Int) ∧ Hid (Still qj 600000 ∧ qj.names = q2.names ∧ totalB qj ≤ 59940 + 264000 * r + j) ∧ Hid (Gat S w3 D qj (.slice A9 N c9) (.slice A10 N c10) G T wr)) (fun i _ => N - (RowKit.intOf i).toNat)
                  case atStart => exact ⟨0, q2, by omega, rfl, Lib.hid ⟨HS2.out.1, rfl, HS2.out.2.2⟩, HG⟩
                  case round =>
                    clear HG
                    obtain ⟨j, qj, hj, rfl, HSj, HG⟩ := hrel
                    by_cases hjN : j < N
                    · have hjG : j < G.length := by rw [HNN.out]; exact hjN
                      obtain ⟨g9, c9', e9, _, hcs⟩ := HG.out.ownN.at0 (by omega)
                      have f9 : A9 = some ⟨g9, 0, none⟩ := by injection e9
                      clear e9
                      have hpc := hcs j hjG
                      rw [Nat.zero_add] at hpc
                      have hpm := HGM.out G[j] (List.getElem_mem hjG)
                      obtain ⟨p, hp⟩ : ∃ x, G[j] = x := ⟨_, rfl⟩
                      rw [hp] at hpc hpm
                      rw [← HSj.out.2.1] at hpm
                      have hps : (bs p).size ≤ 161 := by
                        obtain ⟨k', hk'⟩ := look_of_key hpm
                        rw [bs_size]; exact (HSj.out.1.small.kn _ (look_mem hk')).1
                      obtain ⟨qa, qb, ha, hsa, hs, hSb, hnb, htb⟩ := HSj.out.1.step (by have := HSj.out.2.2; omega) hpm
                      obtain ⟨S', _, hlt', M', hcb⟩ := HG.out.call
                      obtain ⟨P, hP⟩ : ∃ x, bs p = x := ⟨_, rfl⟩
                      have hPl : P.data.toList = p := by rw [← hP, bs_list]
                      rw [hP] at hpc hps
                      have hap : Calls Try.prog 19 #[.pointer (some ⟨D, 0, none⟩), .string P, .slice (some ⟨wr.heap.size, 0, none⟩) 1 1] (wr.alloc (.cells #[.int .u8 120] 5 (1, 2))) fun x w' => x = .returned (.int .i64 0) ∧ MineS S' wr D qa w' :=
                        side_append hlt' M' ((Below.refl _ _).alloc (Nat.le_refl _) _) HSj.out.1.small P (by omega) [120] 1 rfl (some ⟨wr.heap.size, 0, none⟩) 1 (rb_x _ _) (fun _ x hx => .inr (by have : wr.heap.size = x := Option.some.inj hx; omega)) (by omega) (by rw [hPl]; exact ha)
                      have hsy : ∀ W, MineS S' wr D qa W → Calls Try.prog 11 #[.pointer (some ⟨D, 0, none⟩), .string P] W fun x w' => x = .returned (.int .i64 0) ∧ MineS S' wr D qb w' := fun W M =>
                        side_sync hlt' M hsa (by omega) P (by omega) (by rw [hPl]; exact hs)
                      have hcv := Lib.run_convert_bytes_const (P := Try.prog) wr 24 5 #[.int .u8 120] 1 1 Try.underlying24 Try.underlying5
                      simp only [List.size_toArray, List.length_cons, List.length_nil, Nat.zero_add] at hcv
                      have HAP := Lib.hid hap
                      have HSY := Lib.hid hsy
                      have HCB := Lib.hid hcb
                      have HSB : Hid (Still qb 600000 ∧ qb.names = q2.names ∧ totalB qb ≤ 59940 + 264000 * r + (j + 1)) := Lib.hid ⟨hSb, hnb.trans HSj.out.2.1, by have := HSj.out.2.2; omega⟩
                      subst f9
                      clear hcs hpm hp hps ha hsa hs hSb hnb htb M' hlt' hcb hap hsy hPl hP
                      go_wp2_with (first
                        | (go_at_call 19; (with_reducible refine (HAP.out).mono ?_); rintro e w6 ⟨rfl, M6⟩)
                        | (go_at_call 11; (with_reducible refine (HSY.out _ M6).mono ?_); rintro e w7 ⟨rfl, M7⟩))
                      go_roundw
                      case rel => exact ⟨j + 1, qb, by omega, by go_num, HSB, Lib.hid (HCB.out _ _ M7)⟩
                      case measure => simp [RowKit.intOf]; omega
                    · obtain rfl : j = N := by omega
                      have HG0 := HG
                      clear HG
                      go_wp2
                      go_loopw [182] (fun i wr => ∃ (k : Nat), k ≤ 4 ∧ i = .int .i64 (k : Int) ∧ Hid (MineS S w3 D qj wr)) (fun i _ => 4 - (RowKit.intOf i).toNat)
                      case atStart => exact ⟨0, by omega, rfl, Lib.hid HG0.out.side⟩
                      case round =>
                        clear HG0
                        obtain ⟨k, hk, rfl, HM5⟩ := hrel
                        by_cases hk4 : k < 4
                        · have hki : (k : Int) < 4 := by omega
                          have hdr := HM5.out.off.cell (HD.out.at k hk4) (fun h => h HSD.out)
                          have hds : (dirs4.getD k [] == [] || isPartL (dirs4.getD k [])) = true := by
                            have hh : k = 0 ∨ k = 1 ∨ k = 2 ∨ k = 3 := by omega
                            rcases hh with rfl | rfl | rfl | rfl <;> decide
                          have hsz : (bs (dirs4.getD k [])).size ≤ 1 := by
                            have hh : k = 0 ∨ k = 1 ∨ k = 2 ∨ k = 3 := by omega
                            rcases hh with rfl | rfl | rfl | rfl <;> decide
                          have hcs := calm_syncDir HSj.out.1.calm _ hds
                          have hsd := side_syncDir (e := 0) (q' := qj) HLT.out HM5.out HSj.out.1.small (by omega) (bs (dirs4.getD k [])) (by omega) (by rw [bs_list]; exact hcs)
                          obtain ⟨dk, hdk⟩ : ∃ x, bs (dirs4.getD k []) = x := ⟨_, rfl⟩
                          rw [hdk] at hdr hsd
                          have HSD2 := Lib.hid hsd
                          clear hds hsz hcs hsd hdk
                          go_wp2_with (go_at_call 12; (with_reducible refine HSD2.out.mono ?_); rintro e w6 ⟨rfl, M6⟩)
                          go_roundw
                          case rel => exact ⟨k + 1, by omega, by go_num, Lib.hid M6⟩
                          case measure => simp [RowKit.intOf]; omega
                        · obtain rfl : k = 4 := by omega
                          go_wp2
                          go_roundw
                          case rel => exact ⟨r + 1, qj, by omega, by go_num, Lib.hid ⟨HSj.out.1, HSj.out.2.1.trans HS2.out.2.1, by have := HSj.out.2.2; omega⟩, HM5⟩
                          case measure => simp [RowKit.intOf]; omega
        · obtain rfl : r = 2 := by omega
          go_wp2
          go_ret
          exact ⟨rfl, far_below HU3.out HM1.out.off HSW.out⟩
end Go.Proofs.Ytbodkjifpmencaa
