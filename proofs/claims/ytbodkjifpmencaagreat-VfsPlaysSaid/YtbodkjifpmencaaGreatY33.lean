/-
  The walk of the document's Crash, on any disk. No conditions.
-/
import Derived.Test.YtbodkjifpmencaaGreatY28
namespace Go.Proofs.YtbodkjifpmencaaGreat
open Go.RowKit
open Go.Lib

set_option maxRecDepth 100000 in
set_option maxHeartbeats 20000000 in
theorem rcrash_any {T : Nat → Prop} {X : Nat} {G : RLay} {r : R} {w : World} (H : RD T X G r w) (hT : ∀ b, T b → b < w.heap.size) (ks : List Int) (kA : Option Addr) (kc nk : Nat) (hnk : ks.length = nk) (hnk2 : nk ≤ 1000000) (hK : RI w kA ks) (hkT : 0 < ks.length → ∀ b, aBlock kA = some b → ¬ T b)
    (l : List Bs) (nl0 nb : Nat) (hnl0 : l.length = nl0) (hnl1 : nl0 ≤ 1000000) (hnb : r.bodies.length = nb) (hnb2 : nb ≤ 1000000) (hnow : ∀ i k, (rbody (stayAllR r ks i).1 k).now.length ≤ 1000000000 ∧ (rbody (stayAllR r ks i).1 k).kept.length ≤ (rbody (stayAllR r ks i).1 k).now.length) (hN : r.kept.length + 2 * r.changes.length ≤ 900000) (hch : ∀ c ∈ r.changes, c.2.length ≤ 2)
    (hturn : ∀ k (hk : k < l.length), (dirAllR (stayAllR r ks nb) l k).1.changes ≠ [] ∧ leastR (dirAllR (stayAllR r ks nb) l k).1.changes = l[k]) (hend : (dirAllR (stayAllR r ks nb) l l.length).1.changes = []) :
    Calls Tryz.prog 34 #[.pointer (some ⟨X, 0, none⟩), .slice kA nk kc] w fun e w' => e = .returned (.tuple #[]) ∧ Rs T X (crashR r ks l) w w' := by
  obtain ⟨i0, hi, hz0, hz1, hz2⟩ := info_parts Tryz.infoChange
  have hcrash : crashR r ks l = { (dirAllR (stayAllR r ks nb) l l.length).1 with names := (dirAllR (stayAllR r ks nb) l l.length).1.kept, fails := false } := by unfold crashR; rw [hnb]
  rw [hcrash]
  clear hcrash
  obtain ⟨A0, cb0, x10, hA0⟩ := rs_bodies (Rs.refl H)
  rw [hnb] at x10
  have HT := Lib.hid hT
  have HKT := Lib.hid hkT
  have HK := Lib.hid hK
  have HNK := Lib.hid hnk
  have HNB := Lib.hid hnb
  have HNOW := Lib.hid hnow
  have HTURN := Lib.hid hturn
  have HEND := Lib.hid hend
  have HNL := Lib.hid hnl0
  have HNN := Lib.hid hN
  have HCH := Lib.hid hch
  have HR0 := Lib.hid (Rs.refl H)
  clear hT hkT hK hnk hnb hnow hturn hend hnl0 hN hch H hA0
  go_enter Tryz.func34, Tryz.ntmps34
  go_wp2
  go_loopw [4, 24] (fun u i wr => ∃ (k used : Nat), k ≤ nb ∧ used ≤ k ∧ u = .int .i64 used ∧ i = .int .i64 k ∧ Hid (Rs T X (stayAllR r ks k).1 w wr) ∧ Hid ((stayAllR r ks k).2 = ks.drop used)) (fun _ i _ => nb - (RowKit.intOf i).toNat)
  case atStart => exact ⟨0, 0, Nat.zero_le _, Nat.le_refl _, rfl, rfl, HR0, Lib.hid rfl⟩
  case round =>
    obtain ⟨k, used, hk, hu, rfl, rfl, HS0, HD⟩ := hrel
    clear x10
    by_cases hlt : k < nb
    · obtain ⟨q, hq⟩ : ∃ q, (stayAllR r ks k).1 = q := ⟨_, rfl⟩
      have hql : q.bodies.length = nb := by rw [← hq, stayAll_len]; exact HNB.out
      have hnw := HNOW.out k k
      rw [hq] at HS0 hnw
      have hnx := stayAllR_succ r ks k
      obtain ⟨A, cb, x1, hA⟩ := rs_bodies HS0.out
      rw [hql] at x1 hA
      obtain ⟨b, rfl⟩ := hA (by omega)
      have hkq : k < q.bodies.length := by rw [hql]; exact hlt
      obtain ⟨y0, y1, yf, hXl, hbl, _, _⟩ := rs_at HS0.out x1 hkq
      obtain ⟨D, hDe⟩ : ∃ D, rbody q k = D := ⟨_, rfl⟩
      have HDe := Lib.hid hDe
      rw [hDe] at y0 y1 hnw
      obtain ⟨nl, hnl⟩ : ∃ n, D.now.length = n := ⟨_, rfl⟩
      obtain ⟨kl, hkl⟩ : ∃ n, D.kept.length = n := ⟨_, rfl⟩
      rw [hnl, hkl] at hnw
      have hDs : (bs D.now).size = nl := by rw [bs_size, hnl]
      have hKs : (bs D.kept).size = kl := by rw [bs_size, hkl]
      have HNLe := Lib.hid hnl
      have HKLe := Lib.hid hkl
      have HQ := Lib.hid hq
      have HNX := Lib.hid hnx
      have HKQ := Lib.hid hkq
      have i0' : (0 : Int) ≤ (k : Int) := by omega
      have i1' : (k : Int) < (nb : Int) := by omega
      obtain ⟨be, hbe⟩ : ∃ x, ((bs D.now).toList == (bs D.kept).toList) = x := ⟨_, rfl⟩
      have hnl9 := hnw.1
      have hkl9 := hnw.2
      clear hq hnx hA hDe hnl hkl hkq hql hnw
      go_wp2
      go_quiet (fail)
      obtain ⟨Z, hZ⟩ : ∃ ZZ, ZZ = wr.drewN nq := ⟨_, rfl⟩
      have hbZ : Below wr.heap.size wr Z := by rw [hZ]; exact below_drewN (Below.refl _ _) _
      rw [← hZ]
      clear hZ
      have HSZ := Lib.hid (HS0.out.below hbZ)
      have x1Z := (hbZ.cell (p := ⟨X, 1, none⟩) hXl).trans x1
      have hXZ : X < Z.heap.size := Nat.lt_of_lt_of_le hXl hbZ.size
      clear hbZ y0 y1 yf x1
      obtain ⟨y0, y1, yf, _, _, _, hsn⟩ := rs_at HSZ.out x1Z HKQ.out
      rw [HDe.out] at y0 y1 hsn
      have HSN := Lib.hid hsn
      clear hsn
      cases be
      · have hne : (rbody q k).now ≠ (rbody q k).kept := fun e => by rw [HDe.out] at e; rw [e, eqB_of rfl] at hbe; cases hbe
        have hst := stay1_ne (stayAllR r ks k) q ks used k HQ.out HD.out hne
        rw [HDe.out, HNLe.out, HKLe.out] at hst
        obtain ⟨nv, hnv⟩ : ∃ n, (nextQ (ks.drop used) (nl - kl)).1 = n := ⟨_, rfl⟩
        have hnv2 : nv ≤ nl - kl := by rw [← hnv]; exact next_le _ _
        obtain ⟨Y, hY⟩ : ∃ y, D.now.take (kl + nv) = y := ⟨_, rfl⟩
        rw [hnv, hY] at hst
        have HST := Lib.hid hst
        clear hst hne
        by_cases hul : used < nk
        · have hulk : used < ks.length := by rw [HNK.out]; exact hul
          obtain ⟨bk, offk, rfl, hbk, hck⟩ := HK.out (by omega)
          have ck := hck used hulk
          obtain ⟨x, hx⟩ : ∃ x, ks[used] = x := ⟨_, rfl⟩
          rw [hx] at ck
          have hnx2 := next_in ks used (nl - kl) hulk
          rw [hnv, hx] at hnx2
          have HNX2 := Lib.hid hnx2
          have hTk : ¬ T bk := HKT.out (by omega) bk rfl
          have i2' : (0 : Int) ≤ (used : Int) := by omega
          have i3' : (used : Int) < (nk : Int) := by omega
          have hlu : decide ((used : Int) < (nk : Int)) = true := decide_eq_true i3'
          clear hck hnx2 hx hnv hulk
          go_wp2
          go_quiet (fail)
          obtain ⟨Z2, hZ⟩ : ∃ ZZ, ZZ = Z.drewN nq := ⟨_, rfl⟩
          have hbZ : Below Z.heap.size Z Z2 := by rw [hZ]; exact below_drewN (Below.refl _ _) _
          rw [← hZ]
          clear hZ
          have HSZ2 := Lib.hid (HSZ.out.below hbZ)
          have x1Z2 := (hbZ.cell (p := ⟨X, 1, none⟩) hXZ).trans x1Z
          have ck2 := (HSZ2.out.2.cell ck hTk)
          clear hbZ y0 y1 yf ck
          obtain ⟨mm, hmm⟩ : ∃ m, (nl : Int) - (kl : Int) + 1 = m := ⟨_, rfl⟩
          first | rw [hmm] | skip
          have hm0 : 0 < mm := by omega
          have hmb : mm ≤ 1000000001 := by omega
          have hrb := rem_bd x mm hm0
          have hrb1 := hrb.1
          have hrb2 := hrb.2
          have hrr := rem_rem x mm hm0
          have hnvm : (x.tmod mm + mm).tmod mm = (nv : Int) := by rw [hrr, HNX2.out]; congr 1; omega
          clear hrb hrr
          go_wp2
          obtain ⟨u0, u1, uf, hXu, _, _, _⟩ := rs_at HSZ2.out.drew (show Z2.drew.cell? ⟨X, 1, none⟩ = _ from x1Z2) HKQ.out
          obtain ⟨-, -, -, -, -, hsk, -⟩ := rs_at HSZ2.out x1Z2 HKQ.out
          rw [HDe.out] at u0 u1 hsk
          have hsk2 := hsk Y
          have HSK := Lib.hid hsk2.1.drew
          have hx1s : (Z2.setCell ⟨b, k * 2 + 1, none⟩ (.string (bs Y))).drew.cell? ⟨X, 1, none⟩ = some (.slice (some ⟨b, 0, none⟩) nb cb) := hsk2.2
          have hsl : ∀ W, (Instr.slice 9 (.string (bs D.now)) none (some (.int .i64 ((kl : Int) + (nv : Int)))) none).run Tryz.prog W = .ok (.string (bs Y)) W := fun W => slice_txt D.now Y (kl + nv) ((kl : Int) + (nv : Int)) (by omega) (by rw [HNLe.out]; omega) hY W
          have HHX := Lib.hid hx1s
          have hk3 : k < ({ q with bodies := q.bodies.set k ⟨D.now, Y⟩ } : R).bodies.length := by show k < (q.bodies.set k _).length; rw [List.length_set]; exact HKQ.out
          obtain ⟨v0', v1', _, _, _, _, hsn4⟩ := rs_at hsk2.1 hsk2.2 hk3
          rw [rbody_at HKQ.out] at v0' v1' hsn4
          dsimp only at v0' v1' hsn4
          have hfin2 := (hsn4 Y).drew
          rw [set_twice] at hfin2
          have HFIN2 := Lib.hid hfin2
          clear hsn4 hfin2
          have hwk : IntKind.i64.wrap ((kl : Int) + (nv : Int)) = ((kl : Int) + (nv : Int)) := IntWalk.i64_in _ (by omega)
          clear hsk hsk2 hx1s hY
          go_region_with fail
          obtain ⟨Z3, hZ3⟩ : ∃ Z0, Z0 = (Z2.setCell ⟨b, k * 2 + 1, none⟩ (.string (bs Y))).drew := ⟨_, rfl⟩
          rw [← hZ3] at HSK HHX ⊢
          obtain ⟨v0, v1, vf, _, _, _, hsn3⟩ := rs_at HSK.out HHX.out hk3
          rw [rbody_at HKQ.out] at v0 v1 hsn3
          have hfin := hsn3 Y
          rw [set_twice] at hfin
          have HFIN := Lib.hid hfin
          clear hsn3 hfin hZ3 u0 u1 uf hsl
          go_wp2
          exact ⟨⟨k + 1, used + 1, by omega, by omega, rfl, rfl, Lib.hid (by rw [HNX.out, HST.out]; exact HFIN.out), Lib.hid (by rw [HNX.out, HST.out])⟩, by show nb - ((k : Int) + 1).toNat < nb - (k : Int).toNat; omega⟩
          exact ⟨⟨k + 1, used + 1, by omega, by omega, rfl, rfl, Lib.hid (by rw [HNX.out, HST.out]; exact HFIN2.out), Lib.hid (by rw [HNX.out, HST.out])⟩, by show nb - ((k : Int) + 1).toNat < nb - (k : Int).toNat; omega⟩
        · have hnk0 : nv = 0 := by rw [← hnv]; exact next_out _ _ _ (by rw [HNK.out]; omega)
          subst hnk0
          have hlu : decide ((used : Int) < (nk : Int)) = false := decide_eq_false (by omega)
          clear hnv
          clear y0 y1 yf
          go_wp2
          obtain ⟨u0, u1, uf, hXu, _, _, _⟩ := rs_at HSZ.out.drew (show Z.drew.cell? ⟨X, 1, none⟩ = _ from x1Z) HKQ.out
          obtain ⟨-, -, -, -, -, hsk, -⟩ := rs_at HSZ.out x1Z HKQ.out
          rw [HDe.out] at u0 u1 hsk
          have hsk2 := hsk Y
          have HSK := Lib.hid hsk2.1.drew
          have hx1s : (Z.setCell ⟨b, k * 2 + 1, none⟩ (.string (bs Y))).drew.cell? ⟨X, 1, none⟩ = some (.slice (some ⟨b, 0, none⟩) nb cb) := hsk2.2
          have hsl : ∀ W, (Instr.slice 9 (.string (bs D.now)) none (some (.int .i64 (kl : Int))) none).run Tryz.prog W = .ok (.string (bs Y)) W := fun W => slice_txt D.now Y (kl + 0) (kl : Int) (by omega) (by rw [HNLe.out]; omega) hY W
          have HHX := Lib.hid hx1s
          have hk3 : k < ({ q with bodies := q.bodies.set k ⟨D.now, Y⟩ } : R).bodies.length := by show k < (q.bodies.set k _).length; rw [List.length_set]; exact HKQ.out
          obtain ⟨v0', v1', _, _, _, _, hsn4⟩ := rs_at hsk2.1 hsk2.2 hk3
          rw [rbody_at HKQ.out] at v0' v1' hsn4
          dsimp only at v0' v1' hsn4
          have hfin2 := (hsn4 Y).drew
          rw [set_twice] at hfin2
          have HFIN2 := Lib.hid hfin2
          clear hsn4 hfin2
          have hwk : IntKind.i64.wrap (kl : Int) = (kl : Int) := IntWalk.i64_in _ (by omega)
          clear hsk hsk2 hx1s hY
          go_region_with fail
          obtain ⟨Z3, hZ3⟩ : ∃ Z0, Z0 = (Z.setCell ⟨b, k * 2 + 1, none⟩ (.string (bs Y))).drew := ⟨_, rfl⟩
          rw [← hZ3] at HSK HHX ⊢
          obtain ⟨v0, v1, vf, _, _, _, hsn3⟩ := rs_at HSK.out HHX.out hk3
          rw [rbody_at HKQ.out] at v0 v1 hsn3
          have hfin := hsn3 Y
          rw [set_twice] at hfin
          have HFIN := Lib.hid hfin
          clear hsn3 hfin hZ3 u0 u1 uf hsl
          go_wp2
          exact ⟨⟨k + 1, used + 1, by omega, by omega, rfl, rfl, Lib.hid (by rw [HNX.out, HST.out]; exact HFIN.out), Lib.hid (by rw [HNX.out, HST.out])⟩, by show nb - ((k : Int) + 1).toNat < nb - (k : Int).toNat; omega⟩
          exact ⟨⟨k + 1, used + 1, by omega, by omega, rfl, rfl, Lib.hid (by rw [HNX.out, HST.out]; exact HFIN2.out), Lib.hid (by rw [HNX.out, HST.out])⟩, by show nb - ((k : Int) + 1).toNat < nb - (k : Int).toNat; omega⟩
      · obtain ⟨he1, he2⟩ := stay1_eq (stayAllR r ks k) q k HQ.out HKQ.out (by rw [HDe.out]; exact of_eqB hbe)
        have HSE := HSN.out D.kept
        rw [HDe.out] at he2
        rw [he2] at HSE
        have HFIN := Lib.hid HSE
        have HE1 := Lib.hid he1
        clear HSE he1 he2
        go_wp2
        exact ⟨⟨k + 1, used, by omega, by omega, rfl, rfl, Lib.hid (by rw [HNX.out, HE1.out, HQ.out]; exact HFIN.out), Lib.hid (by rw [HNX.out, HE1.out]; exact HD.out)⟩, by show nb - ((k : Int) + 1).toNat < nb - (k : Int).toNat; omega⟩

    · obtain rfl : k = nb := by omega
      obtain ⟨s, hs⟩ : ∃ s, stayAllR r ks k = s := ⟨_, rfl⟩
      have hsr := stayAll_rest r ks k
      rw [hs] at HTURN HEND HS0 HD hsr
      have HSE := Lib.hid hs
      have HDL : Hid (∀ j, j ≤ l.length → (dirAllR s l j).1.kept.length + 2 * (dirAllR s l j).1.changes.length ≤ 900000 ∧ ∀ c ∈ (dirAllR s l j).1.changes, c.2.length ≤ 2) := Lib.hid (fun j hj => by
        obtain ⟨h1, h2⟩ := dirAll_len s (by rw [hsr.1]; exact HCH.out) l j hj
        rw [hsr.1, hsr.2] at h1
        have := HNN.out
        exact ⟨by omega, h2⟩)
      have HS1 : Hid (Rs T X (dirAllR s l 0).1 w wr) := Lib.hid HS0.out
      have HD1 : Hid ((dirAllR s l 0).2 = ks.drop used) := Lib.hid HD.out
      obtain ⟨V, hV⟩ : ∃ V, V = wr := ⟨_, rfl⟩
      subst hV
      clear hs hsr HNN HCH HNOW HR0 HS0 HD hlt hk
      have hub : used ≤ 1000000 := by omega
      clear hu
      go_wp2
      go_loopw [4] (fun u wr => ∃ (k : Nat), k ≤ nl0 ∧ u = .int .i64 ((used + k : Nat) : Int) ∧ Hid (Rs T X (dirAllR s l k).1 w wr) ∧ Hid ((dirAllR s l k).2 = ks.drop (used + k))) (fun u _ => nl0 + used - (RowKit.intOf u).toNat)
      case atStart => exact ⟨0, Nat.zero_le _, rfl, HS1, HD1⟩
      case round =>
        clear HS1 HD1
        obtain ⟨t, ht, rfl, HS, HD⟩ := hrel
        obtain ⟨q, hq⟩ : ∃ q, (dirAllR s l t).1 = q := ⟨_, rfl⟩
        obtain ⟨hdl1, hdl2⟩ := HDL.out t (by rw [HNL.out]; exact ht)
        rw [hq] at HS hdl1 hdl2
        obtain ⟨A, cc, x4, f4, hXl, hcs⟩ := rs_changes HS.out
        obtain ⟨nc, hnc⟩ : ∃ n, q.changes.length = n := ⟨_, rfl⟩
        rw [hnc] at x4 hdl1
        have HNC := Lib.hid hnc
        obtain ⟨V1, hV1⟩ : ∃ V1, V1 = wr := ⟨_, rfl⟩
        subst hV1
        have HQ := Lib.hid hq
        by_cases hlt : t < nl0
        · have htl : t < l.length := by rw [HNL.out]; exact hlt
          obtain ⟨hne, hle⟩ := HTURN.out t htl
          have hnx := dirAllR_succ s l t htl
          rw [hq] at hne hle
          obtain ⟨d, hd⟩ : ∃ x, l[t] = x := ⟨_, rfl⟩
          rw [hd] at hle hnx
          have hpos : 0 < nc := by
            rw [← hnc]
            exact List.length_pos_iff.2 hne
          obtain ⟨bc, rfl, hbc, hcs2⟩ := hcs (by omega)
          have hpq : 0 < q.changes.length := by omega
          obtain ⟨Aj0, cj0, c00, -, -⟩ := hcs2 0 hpq
          obtain ⟨M0, hM0⟩ : ∃ x, q.changes[0].1 = x := ⟨_, rfl⟩
          rw [hM0] at c00
          rw [Nat.zero_mul] at c00
          have hle2 : q.changes.foldl leastStep M0 = d := by
            have := hle
            unfold leastR at this
            rw [head_least _ hpq, hM0] at this
            exact this
          have HLE := Lib.hid hle2
          have HCS := Lib.hid hcs2
          have HNX := Lib.hid hnx
          have HDL2 := Lib.hid hdl2
          have i0' : (0 : Int) < (nc : Int) := by omega
          have hgt : decide ((0 : Int) < (nc : Int)) = true := decide_eq_true i0'
          clear hne hle hnx hd hM0 hpq hcs2 hcs hq hnc hle2 hdl2
          go_wp2
          go_loopw [9, 111] (fun lv i wr => ∃ (j : Nat), j ≤ nc ∧ i = .int .i64 j ∧ (∃ S, lv = .string S ∧ Hid (S = bs ((q.changes.take j).foldl leastStep M0))) ∧ Below V1.heap.size V1 wr) (fun _ i _ => nc - (RowKit.intOf i).toNat)
          case atStart => exact ⟨0, Nat.zero_le _, rfl, ⟨_, rfl, Lib.hid rfl⟩, Below.refl _ _⟩
          case round =>
            obtain ⟨j, hj, rfl, ⟨S, rfl, HSS⟩, hbw⟩ := hrel
            by_cases hjn : j < nc
            · have hjq : j < q.changes.length := by rw [HNC.out]; exact hjn
              obtain ⟨Aj, cj, c0, c1, _⟩ := HCS.out j hjq
              obtain ⟨Dj, hDj⟩ : ∃ x, q.changes[j].1 = x := ⟨_, rfl⟩
              obtain ⟨mj, hmj⟩ : ∃ x, q.changes[j].2.length = x := ⟨_, rfl⟩
              rw [hDj] at c0
              rw [hmj] at c1
              have d0 := (hbw.cell (p := ⟨bc, j * 2, none⟩) hbc).trans c0
              have d1 := (hbw.cell (p := ⟨bc, j * 2 + 1, none⟩) hbc).trans c1
              have hsu := least_succ q.changes M0 j hjq
              obtain ⟨cur, hcur⟩ : ∃ x, (q.changes.take j).foldl leastStep M0 = x := ⟨_, rfl⟩
              rw [hcur] at HSS hsu
              obtain rfl : S = bs cur := HSS.out
              have hbl := bl_bool Dj cur
              obtain ⟨bb, hbb⟩ : ∃ x, decide (Dj < cur) = x := ⟨_, rfl⟩
              rw [hbb] at hbl
              have hsu2 : (q.changes.take (j + 1)).foldl leastStep M0 = if bb then Dj else cur := by
                rw [hsu]
                unfold leastStep
                rw [hDj]
                cases bb
                · exact if_neg (of_decide_eq_false hbb)
                · exact if_pos (of_decide_eq_true hbb)
              have HSU := Lib.hid hsu2
              have hsz := hbw.size
              clear hDj hmj hsu hsu2 hcur hbb c0 c1 HSS
              cases bb
              · go_wp2
                exact ⟨⟨j + 1, by omega, rfl, ⟨_, rfl, Lib.hid (by rw [HSU.out]; rfl)⟩, hbw.alloc hsz _⟩, by show nc - ((j : Int) + 1).toNat < nc - (j : Int).toNat; omega⟩
              · go_wp2
                exact ⟨⟨j + 1, by omega, rfl, ⟨_, rfl, Lib.hid (by rw [HSU.out]; rfl)⟩, hbw.alloc hsz _⟩, by show nc - ((j : Int) + 1).toNat < nc - (j : Int).toNat; omega⟩
            · obtain rfl : j = nc := by omega
              have htk : q.changes.take j = q.changes := List.take_of_length_le (by rw [HNC.out]; exact Nat.le_refl _)
              rw [htk, HLE.out] at HSS
              obtain rfl : S = bs d := HSS.out
              have x4w := (hbw.cell (p := ⟨X, 4, none⟩) hXl).trans x4
              obtain ⟨V2, hV2⟩ : ∃ V2, V2 = wr := ⟨_, rfl⟩
              subst hV2
              clear HSS htk
              go_wp2
              go_loopw [10, 127] (fun mv i wr => ∃ (i2 mc : Nat), i2 ≤ j ∧ i = .int .i64 i2 ∧ mv = .int .i64 mc ∧ mc ≤ i2 + 1 ∧ 1 ≤ mc ∧ Hid (mc = 1 + ((q.changes.take i2).filter (fun c => decide (c.1 = d))).length) ∧ Below V1.heap.size V1 wr) (fun _ i _ => j - (RowKit.intOf i).toNat)
              case atStart => exact ⟨0, 1, Nat.zero_le _, rfl, rfl, Nat.le_refl _, Nat.le_refl _, Lib.hid rfl, hbw⟩
              case round =>
                clear hbw x4w
                obtain ⟨i2, mc, hi2, rfl, rfl, hmc, hmc1, HMC, hbw⟩ := hrel
                by_cases hin : i2 < j
                · have hjq : i2 < q.changes.length := by rw [HNC.out]; exact hin
                  obtain ⟨Aj, cj, c0, c1, _⟩ := HCS.out i2 hjq
                  obtain ⟨Dj, hDj⟩ : ∃ x, q.changes[i2].1 = x := ⟨_, rfl⟩
                  obtain ⟨mj, hmj⟩ : ∃ x, q.changes[i2].2.length = x := ⟨_, rfl⟩
                  rw [hDj] at c0
                  rw [hmj] at c1
                  have d0 := (hbw.cell (p := ⟨bc, i2 * 2, none⟩) hbc).trans c0
                  have d1 := (hbw.cell (p := ⟨bc, i2 * 2 + 1, none⟩) hbc).trans c1
                  have hsu := cnt_take_succ d q.changes i2 hjq
                  rw [hDj] at hsu
                  obtain ⟨be, hbe⟩ : ∃ x, ((bs Dj).toList == (bs d).toList) = x := ⟨_, rfl⟩
                  have hsz := hbw.size
                  cases be
                  · have hne : Dj ≠ d := fun e => by rw [eqB_of e] at hbe; cases hbe
                    rw [if_neg hne] at hsu
                    have HSU := Lib.hid hsu
                    clear hDj hmj hsu c0 c1 hne
                    go_wp2
                    exact ⟨⟨i2 + 1, mc, by omega, rfl, rfl, by omega, hmc1, Lib.hid (by rw [HSU.out]; exact HMC.out), hbw.alloc hsz _⟩, by show j - ((i2 : Int) + 1).toNat < j - (i2 : Int).toNat; omega⟩
                  · rw [if_pos (of_eqB hbe)] at hsu
                    have HSU := Lib.hid hsu
                    clear hDj hmj hsu c0 c1
                    go_wp2
                    exact ⟨⟨i2 + 1, mc + 1, by omega, rfl, rfl, by omega, by omega, Lib.hid (by rw [HSU.out]; have := HMC.out; omega), hbw.alloc hsz _⟩, by show j - ((i2 : Int) + 1).toNat < j - (i2 : Int).toNat; omega⟩
                · obtain rfl : i2 = j := by omega
                  have htk : q.changes.take i2 = q.changes := List.take_of_length_le (by rw [HNC.out]; exact Nat.le_refl _)
                  rw [htk] at HMC
                  have hnd : mc = 1 + ndR q d := HMC.out
                  have HSV := Lib.hid (HS.out.below hbw)
                  obtain ⟨V3, hV3⟩ : ∃ V3, V3 = wr := ⟨_, rfl⟩
                  subst hV3
                  obtain ⟨nv, hnv⟩ : ∃ n, (nextQ (ks.drop (used + t)) (ndR q d)).1 = n := ⟨_, rfl⟩
                  have hnv2 : nv ≤ ndR q d := by rw [← hnv]; exact next_le _ _
                  obtain ⟨q2, hq2⟩ : ∃ x, keepR q d nv = x := ⟨_, rfl⟩
                  have hstep := keepDir1_eq (dirAllR s l t) d (used + t) ks HD.out
                  rw [HQ.out, hnv, hq2] at hstep
                  have HSTEP := Lib.hid (HNX.out.trans hstep)
                  obtain ⟨zv, hzv⟩ : ∃ z, (nv : Int) = z := ⟨_, rfl⟩
                  have HKE : Hid (∀ W, Rs T X q w W → Calls Tryz.prog 62 #[.pointer (some ⟨X, 0, none⟩), .string (bs d), .int .i64 zv] W fun e w' => e = .returned (.tuple #[]) ∧ Rs T X q2 w w') := Lib.hid (fun W hW => by
                    obtain ⟨⟨G4, hG4⟩, o4⟩ := id hW
                    rw [← hzv, ← hq2]
                    refine (rkeep_any hG4 (more_lt HT.out o4.size) d nv i2 (by omega) HNC.out hdl1 HDL2.out).mono ?_
                    rintro e w' ⟨rfl, ⟨G', hG'⟩, ho⟩
                    exact ⟨rfl, Rs.more hW hG' (fun b hb => by rw [hb]; exact hG4.tx) ho⟩)
                  have hq2l : q2.changes.length ≤ 900000 := by
                    rw [← hq2]
                    have := (keepGo_sub d q.changes nv q.kept).1
                    show (keepGo d q.changes nv q.kept).2.length ≤ _
                    rw [HNC.out] at this
                    omega
                  have hut : ((used + t : Nat) : Int) + 1 = ((used + t + 1 : Nat) : Int) := by omega
                  obtain ⟨ut, hute⟩ : ∃ x, used + t = x := ⟨_, rfl⟩
                  have hutb : ut ≤ 2000000 := by omega
                  have HUT := Lib.hid hute
                  rw [hute] at hnv HSTEP ⊢
                  have HNV := Lib.hid hnv
                  have HND := Lib.hid hnd
                  clear htk HMC hnv2 hq2 hstep hnv hnd hut hute HD HLE HCS c00
                  by_cases hul : ut < nk
                  · have hulk : ut < ks.length := by rw [HNK.out]; exact hul
                    obtain ⟨bk, offk, rfl, hbk, hck⟩ := HK.out (by omega)
                    have ck := hck ut hulk
                    obtain ⟨x, hx⟩ : ∃ x, ks[ut] = x := ⟨_, rfl⟩
                    rw [hx] at ck
                    have hnx2 := next_in ks ut (ndR q d) hulk
                    rw [HNV.out, hx] at hnx2
                    have hTk : ¬ T bk := HKT.out (by omega) bk rfl
                    have ck2 := (HSV.out.2.cell ck hTk)
                    have i2' : (0 : Int) ≤ (ut : Int) := by omega
                    have i3' : (ut : Int) < (nk : Int) := by omega
                    have hlu : decide ((ut : Int) < (nk : Int)) = true := decide_eq_true i3'
                    have hm0 : (0 : Int) < (mc : Int) := by omega
                    have hrb := rem_bd x mc hm0
                    have hrb1 := hrb.1
                    have hrb2 := hrb.2
                    have hnvm : (x.tmod (mc : Int) + (mc : Int)).tmod (mc : Int) = zv := by rw [rem_rem x mc hm0, ← hzv, hnx2]; congr 1; have := HND.out; omega
                    clear hck hnx2 hx hulk hzv hrb ck
                    go_wp2_with (go_at_call 62; (with_reducible refine (HKE.out _ HSV.out).mono ?_); rintro e w5 ⟨rfl, hs5⟩
                                 obtain ⟨A2, c2, x42, f42, hX5, hcs5⟩ := rs_changes hs5
                                 obtain ⟨nc2, hnc2⟩ : ∃ n, q2.changes.length = n := ⟨_, rfl⟩
                                 rw [hnc2] at x42)
                    have HS5 := Lib.hid hs5
                    have HCS5 := Lib.hid hcs5
                    have HNC2 := Lib.hid hnc2
                    have hnc3 : nc2 ≤ 900000 := by rw [← hnc2]; exact hq2l
                    clear hs5 hcs5 hnc2 hq2l
                    go_loopw [16, 163] (fun v i wr => ∃ (j2 m2 : Nat), j2 ≤ nc2 ∧ m2 ≤ j2 ∧ i = .int .i64 j2 ∧ (∃ vA vn vc, v = .slice vA vn vc) ∧ Below w5.heap.size w5 wr ∧ Hid (((q2.changes.take j2).filter (fun c => !decide (c.1 = d))).length = m2) ∧ Hid (∃ chs, wr.ownsRow w5.heap.size TCh 2 v ((q2.changes.take j2).filter (fun c => !decide (c.1 = d))).length (cellsRC ((q2.changes.take j2).filter (fun c => !decide (c.1 = d))) chs) ∧ ChsOk w5 (More T w w5) chs ((q2.changes.take j2).filter (fun c => !decide (c.1 = d))))) (fun _ i _ => nc2 - (RowKit.intOf i).toNat)
                    case atStart => exact ⟨0, 0, Nat.zero_le _, Nat.le_refl _, rfl, ⟨_, _, _, rfl⟩, Below.refl _ _, Lib.hid rfl, Lib.hid ⟨[], World.ownsRow_nil _ _ _ _, ChsOk.nil _ _⟩⟩
                    case round =>
                      obtain ⟨j2, m2, hj2, hm2, rfl, ⟨vA, vn, vc, rfl⟩, hb5, HM2, HROW⟩ := hrel
                      by_cases hjn : j2 < nc2
                      · have hjq : j2 < q2.changes.length := by rw [HNC2.out]; exact hjn
                        obtain ⟨bc2, rfl, hbc2, hc5⟩ := HCS5.out (by omega)
                        obtain ⟨Aj, cj, c0, c1, hRj⟩ := hc5 j2 hjq
                        obtain ⟨Dj, hDj⟩ : ∃ x, q2.changes[j2].1 = x := ⟨_, rfl⟩
                        obtain ⟨mj, hmj⟩ : ∃ x, q2.changes[j2].2.length = x := ⟨_, rfl⟩
                        rw [hDj] at c0
                        rw [hmj] at c1
                        have d0 := (hb5.cell (p := ⟨bc2, j2 * 2, none⟩) hbc2).trans c0
                        have d1 := (hb5.cell (p := ⟨bc2, j2 * 2 + 1, none⟩) hbc2).trans c1
                        have hsu := filt_take_succ d q2.changes j2 hjq
                        obtain ⟨be, hbe⟩ : ∃ x, ((bs Dj).toList == (bs d).toList) = x := ⟨_, rfl⟩
                        have hsz := hb5.size
                        have HDJ := Lib.hid hDj
                        have HMJ := Lib.hid hmj
                        have HRJ := Lib.hid hRj
                        cases be
                        · have hne : q2.changes[j2].1 ≠ d := fun e => by rw [← hDj, eqB_of e] at hbe; cases hbe
                          rw [if_neg hne] at hsu
                          have HSU := Lib.hid hsu
                          have HROW2 := HROW.out
                          obtain ⟨chs, hrow, hC⟩ := HROW2
                          obtain ⟨L, hL⟩ : ∃ x, (q2.changes.take j2).filter (fun c => !decide (c.1 = d)) = x := ⟨_, rfl⟩
                          rw [hL] at hrow hC HSU HM2
                          rw [HM2.out] at hrow
                          have HCc := Lib.hid hC
                          have hba := (Below.refl wr.heap.size wr).alloc (Nat.le_refl _) (.cells #[.string (bs Dj), .slice Aj mj cj] TCh)
                          have hws : (wr.alloc (.cells #[.string (bs Dj), .slice Aj mj cj] TCh)).heap.size = wr.heap.size + 1 := by simp
                          have hba2 : Below wr.heap.size wr ((wr.alloc (.cells #[.string (bs Dj), .slice Aj mj cj] TCh)).alloc (.cells #[.string (bs Dj), .slice Aj mj cj] TCh)) := hba.alloc hba.size _
                          have hnews := two_news (wr.alloc (.cells #[.string (bs Dj), .slice Aj mj cj] TCh)) (.string (bs Dj)) (.slice Aj mj cj) TCh
                          rw [hws] at hnews
                          have HNW := Lib.hid hnews
                          have HBA := Lib.hid (hb5.trans (Below.mono hba2 hsz))
                          have HOW := Lib.hid (own_off hrow (Off.of_below hba2) (fun _ _ h => h))
                          have hlt5 := fun b (hb : (Value.slice vA vn vc).ownBlock = some b) => (World.ownsRow.lt hrow b hb).1
                          have HLT5 := Lib.hid hlt5
                          clear hne hDj hmj hsu c0 c1 hrow hC hL hba hba2 hnews HROW hc5 hRj hlt5
                          go_wp2_with (at_builtin; refine wpList_append_own _ rfl _ _ 63 rfl w5.heap.size TCh i0 (.agg #[.string ⟨#[]⟩, .slice none 0 0]) 2 40 Tryz.underlying63 hi hz0 hz1 hz2 rfl (by decide) (.slice vA vn vc) _ _ rfl HOW.out ⟨wr.heap.size + 1, 0, none⟩ 1 1 [.string (bs Dj), .slice Aj mj cj] rfl rfl HNW.out (fun u hu => by simp at hu; rcases hu with rfl | rfl <;> rfl) (by unfold maxLen; omega) (by omega) (by simp; omega) ?_; intro v' w6 hown' hg6 _; obtain ⟨A6, n6, c6, rfl⟩ := own_slice hown')
                          exact ⟨⟨j2 + 1, m2 + 1, by omega, by omega, rfl, ⟨_, _, _, rfl⟩, HBA.out.grown hg6 HBA.out.size HLT5.out, Lib.hid (by rw [HSU.out, List.length_append, HM2.out]; rfl), Lib.hid ⟨chs ++ [.slice Aj q2.changes[j2].2.length cj], by rw [HSU.out, List.length_append, HM2.out, cellsRC_snoc _ _ HCc.out.len, HDJ.out, HMJ.out]; exact hown', by rw [HSU.out]; exact HCc.out.snoc _ Aj cj HRJ.out⟩⟩, by show nc2 - ((j2 : Int) + 1).toNat < nc2 - (j2 : Int).toNat; omega⟩
                        · rw [if_pos (by rw [hDj]; exact of_eqB hbe), List.append_nil] at hsu
                          have HSU := Lib.hid hsu
                          clear hDj hmj hsu c0 c1 hc5 hRj
                          go_wp2
                          exact ⟨⟨j2 + 1, m2, by omega, by omega, rfl, ⟨_, _, _, rfl⟩, hb5.alloc hsz _, Lib.hid (by rw [HSU.out]; exact HM2.out), Lib.hid (by rw [HSU.out]; obtain ⟨chs, hrow, hC⟩ := HROW.out; exact ⟨chs, own_off hrow (Off.of_below ((Below.refl wr.heap.size wr).alloc (Nat.le_refl _) _)) (fun _ _ h => h), hC⟩)⟩, by show nc2 - ((j2 : Int) + 1).toNat < nc2 - (j2 : Int).toNat; omega⟩
                      · obtain rfl : j2 = nc2 := by omega
                        have htk : q2.changes.take j2 = q2.changes := List.take_of_length_le (by rw [HNC2.out]; exact Nat.le_refl _)
                        rw [htk] at HROW
                        have HFIN : Hid (Rs T X { q2 with changes := q2.changes.filter fun c => !decide (c.1 = d) } w (wr.setCell ⟨X, 4, none⟩ (.slice vA vn vc))) := Lib.hid (by
                          obtain ⟨chs, hrow, hC⟩ := HROW.out
                          exact rs_setChg HS5.out hb5 hrow hC)
                        have y4 := (hb5.cell (p := ⟨X, 4, none⟩) hX5).trans x42
                        have yf : wr.frozen? ⟨X, 4, none⟩ = false := by
                          obtain ⟨_, _, _, f, _⟩ := rs_changes (HS5.out.below hb5)
                          exact f
                        clear htk HROW
                        go_wp2
                        exact ⟨⟨t + 1, by omega, by first | rfl | (have := HUT.out; congr 1; omega), Lib.hid (by rw [HSTEP.out]; exact HFIN.out), Lib.hid (by rw [HSTEP.out, ← HUT.out]; rfl)⟩, by have := HUT.out; show nl0 + used - (((ut : Int) + 1)).toNat < nl0 + used - (((used + t : Nat) : Int)).toNat; omega⟩

                  · have hnk0 : nv = 0 := by rw [← HNV.out]; exact next_out _ _ _ (by rw [HNK.out]; omega)
                    subst hnk0
                    obtain rfl : (0 : Int) = zv := hzv
                    have hlu : decide ((ut : Int) < (nk : Int)) = false := decide_eq_false (by omega)
                    go_wp2_with (go_at_call 62; (with_reducible refine (HKE.out _ HSV.out).mono ?_); rintro e w5 ⟨rfl, hs5⟩
                                 obtain ⟨A2, c2, x42, f42, hX5, hcs5⟩ := rs_changes hs5
                                 obtain ⟨nc2, hnc2⟩ : ∃ n, q2.changes.length = n := ⟨_, rfl⟩
                                 rw [hnc2] at x42)
                    have HS5 := Lib.hid hs5
                    have HCS5 := Lib.hid hcs5
                    have HNC2 := Lib.hid hnc2
                    have hnc3 : nc2 ≤ 900000 := by rw [← hnc2]; exact hq2l
                    clear hs5 hcs5 hnc2 hq2l
                    go_loopw [16, 163] (fun v i wr => ∃ (j2 m2 : Nat), j2 ≤ nc2 ∧ m2 ≤ j2 ∧ i = .int .i64 j2 ∧ (∃ vA vn vc, v = .slice vA vn vc) ∧ Below w5.heap.size w5 wr ∧ Hid (((q2.changes.take j2).filter (fun c => !decide (c.1 = d))).length = m2) ∧ Hid (∃ chs, wr.ownsRow w5.heap.size TCh 2 v ((q2.changes.take j2).filter (fun c => !decide (c.1 = d))).length (cellsRC ((q2.changes.take j2).filter (fun c => !decide (c.1 = d))) chs) ∧ ChsOk w5 (More T w w5) chs ((q2.changes.take j2).filter (fun c => !decide (c.1 = d))))) (fun _ i _ => nc2 - (RowKit.intOf i).toNat)
                    case atStart => exact ⟨0, 0, Nat.zero_le _, Nat.le_refl _, rfl, ⟨_, _, _, rfl⟩, Below.refl _ _, Lib.hid rfl, Lib.hid ⟨[], World.ownsRow_nil _ _ _ _, ChsOk.nil _ _⟩⟩
                    case round =>
                      obtain ⟨j2, m2, hj2, hm2, rfl, ⟨vA, vn, vc, rfl⟩, hb5, HM2, HROW⟩ := hrel
                      by_cases hjn : j2 < nc2
                      · have hjq : j2 < q2.changes.length := by rw [HNC2.out]; exact hjn
                        obtain ⟨bc2, rfl, hbc2, hc5⟩ := HCS5.out (by omega)
                        obtain ⟨Aj, cj, c0, c1, hRj⟩ := hc5 j2 hjq
                        obtain ⟨Dj, hDj⟩ : ∃ x, q2.changes[j2].1 = x := ⟨_, rfl⟩
                        obtain ⟨mj, hmj⟩ : ∃ x, q2.changes[j2].2.length = x := ⟨_, rfl⟩
                        rw [hDj] at c0
                        rw [hmj] at c1
                        have d0 := (hb5.cell (p := ⟨bc2, j2 * 2, none⟩) hbc2).trans c0
                        have d1 := (hb5.cell (p := ⟨bc2, j2 * 2 + 1, none⟩) hbc2).trans c1
                        have hsu := filt_take_succ d q2.changes j2 hjq
                        obtain ⟨be, hbe⟩ : ∃ x, ((bs Dj).toList == (bs d).toList) = x := ⟨_, rfl⟩
                        have hsz := hb5.size
                        have HDJ := Lib.hid hDj
                        have HMJ := Lib.hid hmj
                        have HRJ := Lib.hid hRj
                        cases be
                        · have hne : q2.changes[j2].1 ≠ d := fun e => by rw [← hDj, eqB_of e] at hbe; cases hbe
                          rw [if_neg hne] at hsu
                          have HSU := Lib.hid hsu
                          have HROW2 := HROW.out
                          obtain ⟨chs, hrow, hC⟩ := HROW2
                          obtain ⟨L, hL⟩ : ∃ x, (q2.changes.take j2).filter (fun c => !decide (c.1 = d)) = x := ⟨_, rfl⟩
                          rw [hL] at hrow hC HSU HM2
                          rw [HM2.out] at hrow
                          have HCc := Lib.hid hC
                          have hba := (Below.refl wr.heap.size wr).alloc (Nat.le_refl _) (.cells #[.string (bs Dj), .slice Aj mj cj] TCh)
                          have hws : (wr.alloc (.cells #[.string (bs Dj), .slice Aj mj cj] TCh)).heap.size = wr.heap.size + 1 := by simp
                          have hba2 : Below wr.heap.size wr ((wr.alloc (.cells #[.string (bs Dj), .slice Aj mj cj] TCh)).alloc (.cells #[.string (bs Dj), .slice Aj mj cj] TCh)) := hba.alloc hba.size _
                          have hnews := two_news (wr.alloc (.cells #[.string (bs Dj), .slice Aj mj cj] TCh)) (.string (bs Dj)) (.slice Aj mj cj) TCh
                          rw [hws] at hnews
                          have HNW := Lib.hid hnews
                          have HBA := Lib.hid (hb5.trans (Below.mono hba2 hsz))
                          have HOW := Lib.hid (own_off hrow (Off.of_below hba2) (fun _ _ h => h))
                          have hlt5 := fun b (hb : (Value.slice vA vn vc).ownBlock = some b) => (World.ownsRow.lt hrow b hb).1
                          have HLT5 := Lib.hid hlt5
                          clear hne hDj hmj hsu c0 c1 hrow hC hL hba hba2 hnews HROW hc5 hRj hlt5
                          go_wp2_with (at_builtin; refine wpList_append_own _ rfl _ _ 63 rfl w5.heap.size TCh i0 (.agg #[.string ⟨#[]⟩, .slice none 0 0]) 2 40 Tryz.underlying63 hi hz0 hz1 hz2 rfl (by decide) (.slice vA vn vc) _ _ rfl HOW.out ⟨wr.heap.size + 1, 0, none⟩ 1 1 [.string (bs Dj), .slice Aj mj cj] rfl rfl HNW.out (fun u hu => by simp at hu; rcases hu with rfl | rfl <;> rfl) (by unfold maxLen; omega) (by omega) (by simp; omega) ?_; intro v' w6 hown' hg6 _; obtain ⟨A6, n6, c6, rfl⟩ := own_slice hown')
                          exact ⟨⟨j2 + 1, m2 + 1, by omega, by omega, rfl, ⟨_, _, _, rfl⟩, HBA.out.grown hg6 HBA.out.size HLT5.out, Lib.hid (by rw [HSU.out, List.length_append, HM2.out]; rfl), Lib.hid ⟨chs ++ [.slice Aj q2.changes[j2].2.length cj], by rw [HSU.out, List.length_append, HM2.out, cellsRC_snoc _ _ HCc.out.len, HDJ.out, HMJ.out]; exact hown', by rw [HSU.out]; exact HCc.out.snoc _ Aj cj HRJ.out⟩⟩, by show nc2 - ((j2 : Int) + 1).toNat < nc2 - (j2 : Int).toNat; omega⟩
                        · rw [if_pos (by rw [hDj]; exact of_eqB hbe), List.append_nil] at hsu
                          have HSU := Lib.hid hsu
                          clear hDj hmj hsu c0 c1 hc5 hRj
                          go_wp2
                          exact ⟨⟨j2 + 1, m2, by omega, by omega, rfl, ⟨_, _, _, rfl⟩, hb5.alloc hsz _, Lib.hid (by rw [HSU.out]; exact HM2.out), Lib.hid (by rw [HSU.out]; obtain ⟨chs, hrow, hC⟩ := HROW.out; exact ⟨chs, own_off hrow (Off.of_below ((Below.refl wr.heap.size wr).alloc (Nat.le_refl _) _)) (fun _ _ h => h), hC⟩)⟩, by show nc2 - ((j2 : Int) + 1).toNat < nc2 - (j2 : Int).toNat; omega⟩
                      · obtain rfl : j2 = nc2 := by omega
                        have htk : q2.changes.take j2 = q2.changes := List.take_of_length_le (by rw [HNC2.out]; exact Nat.le_refl _)
                        rw [htk] at HROW
                        have HFIN : Hid (Rs T X { q2 with changes := q2.changes.filter fun c => !decide (c.1 = d) } w (wr.setCell ⟨X, 4, none⟩ (.slice vA vn vc))) := Lib.hid (by
                          obtain ⟨chs, hrow, hC⟩ := HROW.out
                          exact rs_setChg HS5.out hb5 hrow hC)
                        have y4 := (hb5.cell (p := ⟨X, 4, none⟩) hX5).trans x42
                        have yf : wr.frozen? ⟨X, 4, none⟩ = false := by
                          obtain ⟨_, _, _, f, _⟩ := rs_changes (HS5.out.below hb5)
                          exact f
                        clear htk HROW
                        go_wp2
                        exact ⟨⟨t + 1, by omega, by first | rfl | (have := HUT.out; congr 1; omega), Lib.hid (by rw [HSTEP.out]; exact HFIN.out), Lib.hid (by rw [HSTEP.out, ← HUT.out]; rfl)⟩, by have := HUT.out; show nl0 + used - (((ut : Int) + 1)).toNat < nl0 + used - (((used + t : Nat) : Int)).toNat; omega⟩
        · obtain rfl : t = nl0 := by omega
          have hnc0 : nc = 0 := by
            have h1 := HEND.out
            rw [HNL.out, hq] at h1
            rw [← hnc, h1]
            rfl
          subst hnc0
          have HQN : Hid (({ (dirAllR s l l.length).1 with names := (dirAllR s l l.length).1.kept, fails := false } : R) = { q with names := q.kept, fails := false }) := Lib.hid (by rw [HNL.out, hq])
          obtain ⟨⟨G4, hG4⟩, _⟩ := id HS.out
          obtain ⟨An, cn, hkv, hkn⟩ := rn_of_row hG4.kept
          obtain ⟨nkk, hnkk⟩ : ∃ n, q.kept.length = n := ⟨_, rfl⟩
          have x3 : V1.cell? ⟨X, 3, none⟩ = some (.slice An nkk cn) := (hG4.disk.cell 3).trans (by show some G4.kv = _; rw [hkv, hnkk])
          have hna : An = none → cn = 0 := fun e => by
            subst e
            rcases hG4.kept.2 with ⟨e, _⟩ | ⟨g, cap, cur, e, _⟩
            · rw [hkv] at e; exact (Value.slice.inj e).2.2
            · rw [hkv] at e; cases (Value.slice.inj e).1
          have hba := (Below.refl V1.heap.size V1).alloc (Nat.le_refl _) (.cells #[] TN)
          have x3a := (hba.cell (p := ⟨X, 3, none⟩) hXl).trans x3
          have HKN := Lib.hid hkn
          have HNA := Lib.hid hna
          have HNKK := Lib.hid hnkk
          have hkk9 : nkk ≤ 900000 := by omega
          have hx2 : ∀ W, Below V1.heap.size V1 W → ∃ v, W.cell? ⟨X, 2, none⟩ = some v := fun W hb => ⟨_, (hb.cell (p := ⟨X, 2, none⟩) hXl).trans (hG4.disk.cell 2)⟩
          have hxf : ∀ W, Below V1.heap.size V1 W → W.frozen? ⟨X, 2, none⟩ = false := fun W hb => by
            obtain ⟨⟨G5, hG5⟩, _⟩ := HS.out.below hb
            exact hG5.disk.free 2
          have hx5 : ∀ W v, Below V1.heap.size V1 W → ((∃ y, (W.setCell ⟨X, 2, none⟩ v).cell? ⟨X, 5, none⟩ = some y) ∧ (W.setCell ⟨X, 2, none⟩ v).frozen? ⟨X, 5, none⟩ = false) := fun W v hb => by
            obtain ⟨⟨G5, hG5⟩, _⟩ := HS.out.below hb
            have h := hG5.disk.set 2 v
            exact ⟨⟨_, h.cell 5⟩, h.free 5⟩
          have HX2 := Lib.hid hx2
          have HXF := Lib.hid hxf
          have HX5 := Lib.hid hx5
          clear hq hG4 hkv hkn hnkk hna hba hx2 hxf hx5 hcs HNC
          go_wp2_with (at_builtin; refine appNm rfl _ _ rfl V1 q.kept nkk cn V1.heap.size An rfl HNKK.out HNA.out rfl rfl HKN.out (by omega) ?_; intro v w6 hown' hb6
                       obtain ⟨y2, z2⟩ := HX2.out w6 hb6
                       have zf := HXF.out w6 hb6
                       obtain ⟨A6, c6, rfl⟩ := own_len hown'
                       obtain ⟨⟨y5, z5⟩, zf5⟩ := HX5.out w6 (.slice A6 q.kept.length c6) hb6)
          go_end0
          rw [HSE.out, HQN.out]
          exact ⟨rfl, rs_crashed HS.out hb6 hown'⟩


end Go.Proofs.YtbodkjifpmencaaGreat
