/-
  The law's do of the acts that may fail, on both disks. No conditions.
-/
import Derived.Test.YtbodkjifpmencaaGreatY31
import Derived.Test.YtbodkjifpmencaaGreatY30
namespace Go.Proofs.YtbodkjifpmencaaGreat
open Go.RowKit
open Go.Lib

set_option maxRecDepth 100000 in
set_option maxHeartbeats 8000000 in
theorem both_write {S T U : Nat → Prop} {w0 W : World} {D X N : Nat} {q : Q} {r : R} (M : MineT S T w0 D q W) (hX : ∃ G, RD U X G r W) (hU : ∀ b, U b → T b) (DD : Dbl N q r) (CC : COk r) (hN : N ≤ 250000) (o : OpR) (hok : OpOk W o) (hbl : o.b.length ≤ 3000) (hk : kindQ o = 0) (hp : o.path.size ≤ 300) (ht : o.tgt.size ≤ 300) (hbS : 0 < o.b.length → ∀ x, aBlock o.bA = some x → S x) (hkl : o.ks.length ≤ 1000000) (hkS : 0 < o.ks.length → ∀ x, aBlock o.kA = some x → S x) :
    Calls Tryz.prog 9 #[.pointer (some ⟨D, 0, none⟩), .pointer (some ⟨X, 0, none⟩), opAgg o] W fun e w' => e = .returned (.bool true) ∧ Both S w0 D X (tryQ q o).2 (tryR r o).2 w' := by
  have hkq : (IntKind.u64.wrap o.kind).tmod 8 = 0 := hk
  obtain ⟨e7, q7, hq7⟩ : ∃ e q', tryQ q o = (e, q') := ⟨_, _, rfl⟩
  obtain ⟨r7, hr7⟩ : ∃ r', tryR r o = (e7, r') := ⟨(tryR r o).2, by rw [← (show (tryR r o).1 = e7 from by rw [(DD.try o).1, hq7])]⟩
  rw [hq7, hr7]
  unfold tryQ at hq7
  unfold tryR at hr7
  rw [hk] at hq7 hr7
  simp only [reduceIte] at hq7 hr7
  obtain ⟨kd, p, t, bA, bc, b, n, kA, kc, ks⟩ := o
  have hrb := hok.rb
  have hnil := hok.nilb
  have hri := hok.ri
  have hrg := hok.rg
  have hcap := hok.cap
  unfold opAgg
  dsimp only at *
  obtain ⟨nb, hnb⟩ : ∃ x, b.length = x := ⟨_, rfl⟩
  rw [hnb] at hbl hbS ⊢
  obtain ⟨nk, hnk⟩ : ∃ x, ks.length = x := ⟨_, rfl⟩
  rw [hnk] at hkl hcap hkS ⊢
  obtain ⟨B, hB⟩ : ∃ B, W.heap.size = B := ⟨_, rfl⟩
  obtain ⟨W1, hW1⟩ : ∃ V, W.alloc (.cells #[.int .i64 kd, .string p, .string t, .slice bA nb bc, .int .i64 n, .slice kA nk kc] 31) = V := ⟨_, rfl⟩
  have hbx := Blk.new (.cells #[.int .i64 kd, .string p, .string t, .slice bA nb bc, .int .i64 n, .slice kA nk kc] 31 (0, 0)) W
  have hb1 : Below W.heap.size W W1 := by rw [← hW1]; exact (Below.refl _ _).alloc (Nat.le_refl _) _
  have hz1 : W1.heap.size = B + 1 := by rw [← hW1, ← hB]; simp
  rw [hW1, hB] at hbx
  have hrb1 : RB W1 bA b := hrb.below hb1
  have c3 : (W1.alloc (.cells #[] 5)).cell? ⟨B, 3, none⟩ = some (.slice bA nb bc) := ((Below.refl W1.heap.size W1).alloc (Nat.le_refl _) _).cell (p := ⟨B, 3, none⟩) (by show B < _; omega) |>.trans (hbx.cell 3)
  have hUl : ∀ x, U x → x < B := fun x hx => by rw [← hB]; exact M.2.2.1 x (.inr (hU x hx))
  have hSl : ∀ x, S x → x < B := fun x hx => by rw [← hB]; exact M.2.2.1 x (.inl hx)
  have hUS : ∀ x, U x → ¬ S x := fun x hx => M.2.2.2 x (hU x hx)
  obtain ⟨TX, hTX⟩ : ∃ x, bs b = x := ⟨_, rfl⟩
  have HTXE := Lib.hid hTX
  have HBS := Lib.hid hbS
  have HKS := Lib.hid hkS
  have HNB := Lib.hid hnb
  have HNK := Lib.hid hnk
  have HRI := Lib.hid hri
  have HRG := Lib.hid hrg
  have HDD := Lib.hid DD
  have HCC := Lib.hid CC
  have HSM := Lib.hid DD.small
  have HM := Lib.hid M
  have HX := Lib.hid hX
  have HBX := Lib.hid hbx
  have HB1 := Lib.hid hb1
  have HU := Lib.hid hU
  have HUL := Lib.hid hUl
  have HUS := Lib.hid hUS
  have HSL := Lib.hid hSl
  have HRB := Lib.hid hrb
  have HQ7 := Lib.hid hq7
  have HR1 : Hid ((writeR r p.data.toList b).1 = e7) := Lib.hid (by rw [hr7])
  have HR2 : Hid ((writeR r p.data.toList b).2 = r7) := Lib.hid (by rw [hr7])
  have hp9 : p.size ≤ 281474976710656 := by omega
  have ht9 : t.size ≤ 281474976710656 := by omega
  have hp8 : p.size ≤ 1000 := by omega
  have ht8 : t.size ≤ 1000 := by omega
  have hbl8 : b.length ≤ 10000000 := by omega
  have hN9 : N + 3 + nb ≤ 1048576 := by omega
  have hN8 : N ≤ 1048576 := by omega
  clear hok hrb hri hrg hkS hnk M hX hbx hb1 hU hTX hbS DD CC hUl hUS hSl
  clear hq7 hr7
  go_enter Tryz.func9, Tryz.ntmps9
  go_upto_region 7 with (first
    | (at_builtin; refine appIn rfl _ _ rfl W1 b nb bc (B + 1) bA hz1 hnb hnil rfl rfl hrb1 (by omega) ?_; intro v W3 hv hb3
       have hz3 := hb3.size
       obtain ⟨T3, hT3⟩ : ∃ T3 : Nat → Prop, (fun x => T x ∨ (W.heap.size ≤ x ∧ x < W3.heap.size)) = T3 := ⟨_, rfl⟩
       have hbw3 : Below W.heap.size W W3 := HB1.out.trans (hb3.mono HB1.out.size)
       have hTB : T3 B := by rw [← hT3]; exact .inr ⟨by omega, by omega⟩
       have hU3 : ∀ x, U x → T3 x := fun x hx => by rw [← hT3]; exact .inl (HU.out x hx)
       have ho3 : OwnT S T3 w0 D q v nb W3 := by
         have h := HM.out.new hbw3
         rw [hT3] at h
         refine ⟨h, _, (by have h := own_base (b2 := 0) hv (fun _ _ => Nat.zero_le _); rw [hnb] at h; exact h), AllU8.cells b, fun x hx => ?_⟩
         have := World.ownsRow.lt hv x hx
         rw [← hT3]
         exact .inr ⟨by omega, by omega⟩
       have hvU : ∀ x, v.ownBlock = some x → ¬ U x ∧ x < W3.heap.size := fun x hx => by
         have h1 := World.ownsRow.lt hv x hx
         exact ⟨fun hu => by have := HUL.out x hu; omega, h1.2⟩
       have hc : ∀ V, Off (fun x => ¬ (S x ∨ T3 x)) W3 V → Blk B (.cells #[.int .i64 kd, .string p, .string t, .slice bA nb bc, .int .i64 n, .slice kA nk kc] 31 (0, 0)) V := fun V o => o.blk ((Off.of_below hb3).blk HBX.out (fun h => h)) (fun h => h (.inr hTB))
       have hx3 : ∀ V, Off (fun x => ¬ (S x ∨ T3 x)) W3 V → ∃ G, RD U X G r V := fun V o => by
         obtain ⟨G, hG⟩ := HX.out
         exact ⟨G, (hG.off (Off.of_below hbw3) (fun _ _ h => h)).off o (fun x hx h => h (.inr (hU3 x hx)))⟩
       have hl3 : ∀ x, U x → x < W3.heap.size := fun x hx => by have := HUL.out x hx; omega
       have hrv : ∀ V, Off (fun x => ¬ (S x ∨ T3 x)) W3 V → RB V bA b := fun V o hz => by
         obtain ⟨b', off, he, hbl', hcs⟩ := (HRB.out) hz
         have h2 := hbw3.size
         have h3 := o.size
         exact ⟨b', off, he, by omega, fun j hj => o.cell ((Off.of_below hbw3).cell (hcs j hj) (fun h => h)) (fun h => h (.inl (HBS.out (by rw [← HNB.out]; exact hz) b' (by rw [he]; rfl))))⟩
       have hrw : ∀ V V2, Off (fun x => ¬ (S x ∨ T3 x)) W3 V → Off U V V2 → RB V2 bA b := fun V V2 o g hz => RB.off (hrv V o) g (fun b' hb' hu => HUS.out b' hu (HBS.out (by rw [← HNB.out]; exact hz) b' hb')) hz
       have hrun := OwnB.read hv
       obtain ⟨A, cv, rfl, hA⟩ := ho3.form
       have e0 : W3.cell? ⟨B, 0, none⟩ = some (.int .i64 kd) := (hc W3 (Off.refl _ _)).cell 0
       have ra3 : RB W3.drew A b := by
         obtain ⟨A', c', he, _, hR, _⟩ := hrun
         injection he with he1 he2 he3
         rw [he1]
         exact hR.below (below_drewN (Below.refl _ _) 1)
       have af3 : 0 < nb → ∀ x, aBlock A = some x → (fun x => S x ∨ T3 x) x ∨ W3.heap.size ≤ x := fun hz x hx => .inl (.inr (by
         obtain ⟨g, hg⟩ := hA hz
         rw [hg] at hx
         exact ho3.2.elim (fun zs hh => hh.2.2 x (by rw [hg]; exact hx))))
       have bd3 : Below W3.heap.size W3 W3.drew := below_drewN (Below.refl _ _) 1
       have md3 : MineS (fun x => S x ∨ T3 x) W3 D q W3.drew := ho3.side.drew
       have HO3 := Lib.hid ho3
       have HC := Lib.hid hc
       have HX3 := Lib.hid hx3
       have HUL3 := Lib.hid hl3
       have HU3 := Lib.hid hU3
       have HVU := Lib.hid hvU
       have HA := Lib.hid hA
       have HRBV := Lib.hid hrv
       have HRBW := Lib.hid hrw
       have HBUn : Hid (¬ U B) := Lib.hid (fun hu => by have := HUL.out B hu; omega)
       clear hv hb3 hT3 hbw3 hTB hU3 ho3 hvU hc hx3 hA c3 hrb1 hrv hrw hrun hl3))
  have hks : ∀ V, Off (fun x => ¬ (S x ∨ T3 x)) W3 V → V.cell? ⟨B, 1, none⟩ = some (.string p) ∧ V.cell? ⟨B, 3, none⟩ = some (.slice bA nb bc) ∧ (convert 28 9 (.slice bA nb bc)).run Tryz.prog V = .ok (.string TX) V := fun V ho => by
    have h := HC.out V ho
    exact ⟨h.cell 1, h.cell 3, (conv_slice bc HNB.out (HRBV.out V ho)).trans (by rw [HTXE.out])⟩
  have hks2 : ∀ V V2, Off (fun x => ¬ (S x ∨ T3 x)) W3 V → Off U V V2 → V2.cell? ⟨B, 1, none⟩ = some (.string p) ∧ V2.cell? ⟨B, 3, none⟩ = some (.slice bA nb bc) ∧ (convert 28 9 (.slice bA nb bc)).run Tryz.prog V2 = .ok (.string TX) V2 := fun V V2 ho g => by
    have h := g.blk (HC.out V ho) HBUn.out
    exact ⟨h.cell 1, h.cell 3, (conv_slice bc HNB.out (HRBW.out V V2 ho g)).trans (by rw [HTXE.out])⟩
  have KS := Lib.hid hks
  have KS2 := Lib.hid hks2
  clear hks hks2
  go_region_held3 (fun V => V.cell? ⟨B, 1, none⟩ = some (.string p) ∧ V.cell? ⟨B, 3, none⟩ = some (.slice bA nb bc) ∧ (convert 28 9 (.slice bA nb bc)).run Tryz.prog V = .ok (.string TX) V)
    (first | exact KS.out _ (by assumption) | exact KS.out _ (Off.refl _ _).drew | exact KS2.out _ _ (by assumption) (by assumption))
    (first
      | (go_at_call 18; (with_reducible refine (side_write HO3.out.lt HO3.out.side bd3 HSM.out p hp9 b nb HNB.out A cv ra3 af3 hN9 HQ7.out).mono ?_); rintro e W4 ⟨rfl, M4⟩
         have o4 : Off (fun x => ¬ (S x ∨ T3 x)) W3 W4 := M4.off)
      | (go_at_call 25; (with_reducible refine (ref_write (HX3.out W4 M4.off) (fun x hx => Nat.lt_of_lt_of_le (HUL3.out x hx) M4.off.size) HDD.out hN HCC.out p TX b hp8 HTXE.out hbl8 e7 r7 HR1.out HR2.out).mono ?_); rintro e W5 ⟨rfl, R5⟩
         have o5 : Off U W4 W5 := R5.2))
  go_wp2_with fail
  obtain ⟨T5, U5, HO5⟩ : ∃ T5 U5 : Nat → Prop, Hid (OwnD S T5 U5 w0 D X q7 r7 (.slice A nb cv) nb W5) := ⟨_, _, Lib.hid (OwnD.of (HO3.out.ret M4) HU3.out (fun x hx => ⟨(HVU.out x hx).1, Nat.lt_of_lt_of_le (HVU.out x hx).2 M4.off.size⟩) R5)⟩
  clear M4 R5 o5 e0 o4 ra3 af3 bd3 md3 KS KS2
  go_loopw [119] (fun i wr => ∃ j : Nat, j ≤ nb ∧ i = .int .i64 (j : Int) ∧ Hid (OwnD S T5 U5 w0 D X q7 r7 (.slice A nb cv) nb wr)) (fun i _ => nb - (RowKit.intOf i).toNat)
  case atStart => exact ⟨0, by omega, rfl, HO5⟩
  case round =>
    clear HO5
    obtain ⟨j, hj, rfl, HO⟩ := hrel
    by_cases hjn : j < nb
    · obtain ⟨g, rfl⟩ := HA.out (by omega)
      obtain ⟨⟨z, hz⟩, hfz⟩ := HO.out.1.at hjn
      go_wp2
      go_roundw
      case rel => exact ⟨j + 1, by omega, by go_num, Lib.hid (HO.out.turn j _)⟩
      case measure => simp [RowKit.intOf]; omega
    · obtain rfl : j = nb := by omega
      go_wp2
      go_ret
      exact ⟨by first | rfl | simp, HO.out.both⟩
set_option maxRecDepth 100000 in
set_option maxHeartbeats 8000000 in
theorem both_append {S T U : Nat → Prop} {w0 W : World} {D X N : Nat} {q : Q} {r : R} (M : MineT S T w0 D q W) (hX : ∃ G, RD U X G r W) (hU : ∀ b, U b → T b) (DD : Dbl N q r) (CC : COk r) (hN : N ≤ 250000) (o : OpR) (hok : OpOk W o) (hbl : o.b.length ≤ 3000) (hk : kindQ o = 1) (hp : o.path.size ≤ 300) (ht : o.tgt.size ≤ 300) (hbS : 0 < o.b.length → ∀ x, aBlock o.bA = some x → S x) (hkl : o.ks.length ≤ 1000000) (hkS : 0 < o.ks.length → ∀ x, aBlock o.kA = some x → S x) :
    Calls Tryz.prog 9 #[.pointer (some ⟨D, 0, none⟩), .pointer (some ⟨X, 0, none⟩), opAgg o] W fun e w' => e = .returned (.bool true) ∧ Both S w0 D X (tryQ q o).2 (tryR r o).2 w' := by
  have hkq : (IntKind.u64.wrap o.kind).tmod 8 = 1 := hk
  obtain ⟨e7, q7, hq7⟩ : ∃ e q', tryQ q o = (e, q') := ⟨_, _, rfl⟩
  obtain ⟨r7, hr7⟩ : ∃ r', tryR r o = (e7, r') := ⟨(tryR r o).2, by rw [← (show (tryR r o).1 = e7 from by rw [(DD.try o).1, hq7])]⟩
  rw [hq7, hr7]
  unfold tryQ at hq7
  unfold tryR at hr7
  rw [hk] at hq7 hr7
  simp only [reduceIte, show ((1 : Int) = 0) = False by decide] at hq7 hr7
  obtain ⟨kd, p, t, bA, bc, b, n, kA, kc, ks⟩ := o
  have hrb := hok.rb
  have hnil := hok.nilb
  have hri := hok.ri
  have hrg := hok.rg
  have hcap := hok.cap
  unfold opAgg
  dsimp only at *
  obtain ⟨nb, hnb⟩ : ∃ x, b.length = x := ⟨_, rfl⟩
  rw [hnb] at hbl hbS ⊢
  obtain ⟨nk, hnk⟩ : ∃ x, ks.length = x := ⟨_, rfl⟩
  rw [hnk] at hkl hcap hkS ⊢
  obtain ⟨B, hB⟩ : ∃ B, W.heap.size = B := ⟨_, rfl⟩
  obtain ⟨W1, hW1⟩ : ∃ V, W.alloc (.cells #[.int .i64 kd, .string p, .string t, .slice bA nb bc, .int .i64 n, .slice kA nk kc] 31) = V := ⟨_, rfl⟩
  have hbx := Blk.new (.cells #[.int .i64 kd, .string p, .string t, .slice bA nb bc, .int .i64 n, .slice kA nk kc] 31 (0, 0)) W
  have hb1 : Below W.heap.size W W1 := by rw [← hW1]; exact (Below.refl _ _).alloc (Nat.le_refl _) _
  have hz1 : W1.heap.size = B + 1 := by rw [← hW1, ← hB]; simp
  rw [hW1, hB] at hbx
  have hrb1 : RB W1 bA b := hrb.below hb1
  have c3 : (W1.alloc (.cells #[] 5)).cell? ⟨B, 3, none⟩ = some (.slice bA nb bc) := ((Below.refl W1.heap.size W1).alloc (Nat.le_refl _) _).cell (p := ⟨B, 3, none⟩) (by show B < _; omega) |>.trans (hbx.cell 3)
  have hUl : ∀ x, U x → x < B := fun x hx => by rw [← hB]; exact M.2.2.1 x (.inr (hU x hx))
  have hSl : ∀ x, S x → x < B := fun x hx => by rw [← hB]; exact M.2.2.1 x (.inl hx)
  have hUS : ∀ x, U x → ¬ S x := fun x hx => M.2.2.2 x (hU x hx)
  obtain ⟨TX, hTX⟩ : ∃ x, bs b = x := ⟨_, rfl⟩
  have HTXE := Lib.hid hTX
  have HBS := Lib.hid hbS
  have HKS := Lib.hid hkS
  have HNB := Lib.hid hnb
  have HNK := Lib.hid hnk
  have HRI := Lib.hid hri
  have HRG := Lib.hid hrg
  have HDD := Lib.hid DD
  have HCC := Lib.hid CC
  have HSM := Lib.hid DD.small
  have HM := Lib.hid M
  have HX := Lib.hid hX
  have HBX := Lib.hid hbx
  have HB1 := Lib.hid hb1
  have HU := Lib.hid hU
  have HUL := Lib.hid hUl
  have HUS := Lib.hid hUS
  have HSL := Lib.hid hSl
  have HRB := Lib.hid hrb
  have HQ7 := Lib.hid hq7
  have HR1 : Hid ((appendR r p.data.toList b).1 = e7) := Lib.hid (by rw [hr7])
  have HR2 : Hid ((appendR r p.data.toList b).2 = r7) := Lib.hid (by rw [hr7])
  have hp9 : p.size ≤ 281474976710656 := by omega
  have ht9 : t.size ≤ 281474976710656 := by omega
  have hp8 : p.size ≤ 1000 := by omega
  have ht8 : t.size ≤ 1000 := by omega
  have hbl8 : b.length ≤ 10000000 := by omega
  have hN9 : N + 3 + nb ≤ 1048576 := by omega
  have hN8 : N ≤ 1048576 := by omega
  clear hok hrb hri hrg hkS hnk M hX hbx hb1 hU hTX hbS DD CC hUl hUS hSl
  clear hq7 hr7
  go_enter Tryz.func9, Tryz.ntmps9
  go_upto_region 9 with (first
    | (at_builtin; refine appIn rfl _ _ rfl W1 b nb bc (B + 1) bA hz1 hnb hnil rfl rfl hrb1 (by omega) ?_; intro v W3 hv hb3
       have hz3 := hb3.size
       obtain ⟨T3, hT3⟩ : ∃ T3 : Nat → Prop, (fun x => T x ∨ (W.heap.size ≤ x ∧ x < W3.heap.size)) = T3 := ⟨_, rfl⟩
       have hbw3 : Below W.heap.size W W3 := HB1.out.trans (hb3.mono HB1.out.size)
       have hTB : T3 B := by rw [← hT3]; exact .inr ⟨by omega, by omega⟩
       have hU3 : ∀ x, U x → T3 x := fun x hx => by rw [← hT3]; exact .inl (HU.out x hx)
       have ho3 : OwnT S T3 w0 D q v nb W3 := by
         have h := HM.out.new hbw3
         rw [hT3] at h
         refine ⟨h, _, (by have h := own_base (b2 := 0) hv (fun _ _ => Nat.zero_le _); rw [hnb] at h; exact h), AllU8.cells b, fun x hx => ?_⟩
         have := World.ownsRow.lt hv x hx
         rw [← hT3]
         exact .inr ⟨by omega, by omega⟩
       have hvU : ∀ x, v.ownBlock = some x → ¬ U x ∧ x < W3.heap.size := fun x hx => by
         have h1 := World.ownsRow.lt hv x hx
         exact ⟨fun hu => by have := HUL.out x hu; omega, h1.2⟩
       have hc : ∀ V, Off (fun x => ¬ (S x ∨ T3 x)) W3 V → Blk B (.cells #[.int .i64 kd, .string p, .string t, .slice bA nb bc, .int .i64 n, .slice kA nk kc] 31 (0, 0)) V := fun V o => o.blk ((Off.of_below hb3).blk HBX.out (fun h => h)) (fun h => h (.inr hTB))
       have hx3 : ∀ V, Off (fun x => ¬ (S x ∨ T3 x)) W3 V → ∃ G, RD U X G r V := fun V o => by
         obtain ⟨G, hG⟩ := HX.out
         exact ⟨G, (hG.off (Off.of_below hbw3) (fun _ _ h => h)).off o (fun x hx h => h (.inr (hU3 x hx)))⟩
       have hl3 : ∀ x, U x → x < W3.heap.size := fun x hx => by have := HUL.out x hx; omega
       have hrv : ∀ V, Off (fun x => ¬ (S x ∨ T3 x)) W3 V → RB V bA b := fun V o hz => by
         obtain ⟨b', off, he, hbl', hcs⟩ := (HRB.out) hz
         have h2 := hbw3.size
         have h3 := o.size
         exact ⟨b', off, he, by omega, fun j hj => o.cell ((Off.of_below hbw3).cell (hcs j hj) (fun h => h)) (fun h => h (.inl (HBS.out (by rw [← HNB.out]; exact hz) b' (by rw [he]; rfl))))⟩
       have hrw : ∀ V V2, Off (fun x => ¬ (S x ∨ T3 x)) W3 V → Off U V V2 → RB V2 bA b := fun V V2 o g hz => RB.off (hrv V o) g (fun b' hb' hu => HUS.out b' hu (HBS.out (by rw [← HNB.out]; exact hz) b' hb')) hz
       have hrun := OwnB.read hv
       obtain ⟨A, cv, rfl, hA⟩ := ho3.form
       have e0 : W3.cell? ⟨B, 0, none⟩ = some (.int .i64 kd) := (hc W3 (Off.refl _ _)).cell 0
       have ra3 : RB W3.drew A b := by
         obtain ⟨A', c', he, _, hR, _⟩ := hrun
         injection he with he1 he2 he3
         rw [he1]
         exact hR.below (below_drewN (Below.refl _ _) 1)
       have af3 : 0 < nb → ∀ x, aBlock A = some x → (fun x => S x ∨ T3 x) x ∨ W3.heap.size ≤ x := fun hz x hx => .inl (.inr (by
         obtain ⟨g, hg⟩ := hA hz
         rw [hg] at hx
         exact ho3.2.elim (fun zs hh => hh.2.2 x (by rw [hg]; exact hx))))
       have bd3 : Below W3.heap.size W3 W3.drew := below_drewN (Below.refl _ _) 1
       have md3 : MineS (fun x => S x ∨ T3 x) W3 D q W3.drew := ho3.side.drew
       have HO3 := Lib.hid ho3
       have HC := Lib.hid hc
       have HX3 := Lib.hid hx3
       have HUL3 := Lib.hid hl3
       have HU3 := Lib.hid hU3
       have HVU := Lib.hid hvU
       have HA := Lib.hid hA
       have HRBV := Lib.hid hrv
       have HRBW := Lib.hid hrw
       have HBUn : Hid (¬ U B) := Lib.hid (fun hu => by have := HUL.out B hu; omega)
       clear hv hb3 hT3 hbw3 hTB hU3 ho3 hvU hc hx3 hA c3 hrb1 hrv hrw hrun hl3))
  have hks : ∀ V, Off (fun x => ¬ (S x ∨ T3 x)) W3 V → V.cell? ⟨B, 1, none⟩ = some (.string p) ∧ V.cell? ⟨B, 3, none⟩ = some (.slice bA nb bc) ∧ (convert 28 9 (.slice bA nb bc)).run Tryz.prog V = .ok (.string TX) V := fun V ho => by
    have h := HC.out V ho
    exact ⟨h.cell 1, h.cell 3, (conv_slice bc HNB.out (HRBV.out V ho)).trans (by rw [HTXE.out])⟩
  have hks2 : ∀ V V2, Off (fun x => ¬ (S x ∨ T3 x)) W3 V → Off U V V2 → V2.cell? ⟨B, 1, none⟩ = some (.string p) ∧ V2.cell? ⟨B, 3, none⟩ = some (.slice bA nb bc) ∧ (convert 28 9 (.slice bA nb bc)).run Tryz.prog V2 = .ok (.string TX) V2 := fun V V2 ho g => by
    have h := g.blk (HC.out V ho) HBUn.out
    exact ⟨h.cell 1, h.cell 3, (conv_slice bc HNB.out (HRBW.out V V2 ho g)).trans (by rw [HTXE.out])⟩
  have KS := Lib.hid hks
  have KS2 := Lib.hid hks2
  clear hks hks2
  go_region_held3 (fun V => V.cell? ⟨B, 1, none⟩ = some (.string p) ∧ V.cell? ⟨B, 3, none⟩ = some (.slice bA nb bc) ∧ (convert 28 9 (.slice bA nb bc)).run Tryz.prog V = .ok (.string TX) V)
    (first | exact KS.out _ (by assumption) | exact KS.out _ (Off.refl _ _).drew | exact KS2.out _ _ (by assumption) (by assumption))
    (first
      | (go_at_call 21; (with_reducible refine (side_append HO3.out.lt HO3.out.side bd3 HSM.out p hp9 b nb HNB.out A cv ra3 af3 hN9 HQ7.out).mono ?_); rintro e W4 ⟨rfl, M4⟩
         have o4 : Off (fun x => ¬ (S x ∨ T3 x)) W3 W4 := M4.off)
      | (go_at_call 26; (with_reducible refine (ref_append (HX3.out W4 M4.off) (fun x hx => Nat.lt_of_lt_of_le (HUL3.out x hx) M4.off.size) HDD.out hN HCC.out p TX b hp8 HTXE.out hbl8 e7 r7 HR1.out HR2.out).mono ?_); rintro e W5 ⟨rfl, R5⟩
         have o5 : Off U W4 W5 := R5.2))
  go_wp2_with fail
  obtain ⟨T5, U5, HO5⟩ : ∃ T5 U5 : Nat → Prop, Hid (OwnD S T5 U5 w0 D X q7 r7 (.slice A nb cv) nb W5) := ⟨_, _, Lib.hid (OwnD.of (HO3.out.ret M4) HU3.out (fun x hx => ⟨(HVU.out x hx).1, Nat.lt_of_lt_of_le (HVU.out x hx).2 M4.off.size⟩) R5)⟩
  clear M4 R5 o5 e0 o4 ra3 af3 bd3 md3 KS KS2
  go_loopw [119] (fun i wr => ∃ j : Nat, j ≤ nb ∧ i = .int .i64 (j : Int) ∧ Hid (OwnD S T5 U5 w0 D X q7 r7 (.slice A nb cv) nb wr)) (fun i _ => nb - (RowKit.intOf i).toNat)
  case atStart => exact ⟨0, by omega, rfl, HO5⟩
  case round =>
    clear HO5
    obtain ⟨j, hj, rfl, HO⟩ := hrel
    by_cases hjn : j < nb
    · obtain ⟨g, rfl⟩ := HA.out (by omega)
      obtain ⟨⟨z, hz⟩, hfz⟩ := HO.out.1.at hjn
      go_wp2
      go_roundw
      case rel => exact ⟨j + 1, by omega, by go_num, Lib.hid (HO.out.turn j _)⟩
      case measure => simp [RowKit.intOf]; omega
    · obtain rfl : j = nb := by omega
      go_wp2
      go_ret
      exact ⟨by first | rfl | simp, HO.out.both⟩
set_option maxRecDepth 100000 in
set_option maxHeartbeats 8000000 in
theorem both_rename {S T U : Nat → Prop} {w0 W : World} {D X N : Nat} {q : Q} {r : R} (M : MineT S T w0 D q W) (hX : ∃ G, RD U X G r W) (hU : ∀ b, U b → T b) (DD : Dbl N q r) (CC : COk r) (hN : N ≤ 250000) (o : OpR) (hok : OpOk W o) (hbl : o.b.length ≤ 3000) (hk : kindQ o = 2) (hp : o.path.size ≤ 300) (ht : o.tgt.size ≤ 300) (hbS : 0 < o.b.length → ∀ x, aBlock o.bA = some x → S x) (hkl : o.ks.length ≤ 1000000) (hkS : 0 < o.ks.length → ∀ x, aBlock o.kA = some x → S x) :
    Calls Tryz.prog 9 #[.pointer (some ⟨D, 0, none⟩), .pointer (some ⟨X, 0, none⟩), opAgg o] W fun e w' => e = .returned (.bool true) ∧ Both S w0 D X (tryQ q o).2 (tryR r o).2 w' := by
  have hkq : (IntKind.u64.wrap o.kind).tmod 8 = 2 := hk
  obtain ⟨e7, q7, hq7⟩ : ∃ e q', tryQ q o = (e, q') := ⟨_, _, rfl⟩
  obtain ⟨r7, hr7⟩ : ∃ r', tryR r o = (e7, r') := ⟨(tryR r o).2, by rw [← (show (tryR r o).1 = e7 from by rw [(DD.try o).1, hq7])]⟩
  rw [hq7, hr7]
  unfold tryQ at hq7
  unfold tryR at hr7
  rw [hk] at hq7 hr7
  simp only [reduceIte, show ((2 : Int) = 0) = False by decide, show ((2 : Int) = 1) = False by decide] at hq7 hr7
  obtain ⟨kd, p, t, bA, bc, b, n, kA, kc, ks⟩ := o
  have hrb := hok.rb
  have hnil := hok.nilb
  have hri := hok.ri
  have hrg := hok.rg
  have hcap := hok.cap
  unfold opAgg
  dsimp only at *
  obtain ⟨nb, hnb⟩ : ∃ x, b.length = x := ⟨_, rfl⟩
  rw [hnb] at hbl hbS ⊢
  obtain ⟨nk, hnk⟩ : ∃ x, ks.length = x := ⟨_, rfl⟩
  rw [hnk] at hkl hcap hkS ⊢
  obtain ⟨B, hB⟩ : ∃ B, W.heap.size = B := ⟨_, rfl⟩
  obtain ⟨W1, hW1⟩ : ∃ V, W.alloc (.cells #[.int .i64 kd, .string p, .string t, .slice bA nb bc, .int .i64 n, .slice kA nk kc] 31) = V := ⟨_, rfl⟩
  have hbx := Blk.new (.cells #[.int .i64 kd, .string p, .string t, .slice bA nb bc, .int .i64 n, .slice kA nk kc] 31 (0, 0)) W
  have hb1 : Below W.heap.size W W1 := by rw [← hW1]; exact (Below.refl _ _).alloc (Nat.le_refl _) _
  have hz1 : W1.heap.size = B + 1 := by rw [← hW1, ← hB]; simp
  rw [hW1, hB] at hbx
  have hrb1 : RB W1 bA b := hrb.below hb1
  have c3 : (W1.alloc (.cells #[] 5)).cell? ⟨B, 3, none⟩ = some (.slice bA nb bc) := ((Below.refl W1.heap.size W1).alloc (Nat.le_refl _) _).cell (p := ⟨B, 3, none⟩) (by show B < _; omega) |>.trans (hbx.cell 3)
  have hUl : ∀ x, U x → x < B := fun x hx => by rw [← hB]; exact M.2.2.1 x (.inr (hU x hx))
  have hSl : ∀ x, S x → x < B := fun x hx => by rw [← hB]; exact M.2.2.1 x (.inl hx)
  have hUS : ∀ x, U x → ¬ S x := fun x hx => M.2.2.2 x (hU x hx)
  obtain ⟨TX, hTX⟩ : ∃ x, bs b = x := ⟨_, rfl⟩
  have HTXE := Lib.hid hTX
  have HBS := Lib.hid hbS
  have HKS := Lib.hid hkS
  have HNB := Lib.hid hnb
  have HNK := Lib.hid hnk
  have HRI := Lib.hid hri
  have HRG := Lib.hid hrg
  have HDD := Lib.hid DD
  have HCC := Lib.hid CC
  have HSM := Lib.hid DD.small
  have HM := Lib.hid M
  have HX := Lib.hid hX
  have HBX := Lib.hid hbx
  have HB1 := Lib.hid hb1
  have HU := Lib.hid hU
  have HUL := Lib.hid hUl
  have HUS := Lib.hid hUS
  have HSL := Lib.hid hSl
  have HRB := Lib.hid hrb
  have HQ7 := Lib.hid hq7
  have HR1 : Hid ((renameR r p.data.toList t.data.toList).1 = e7) := Lib.hid (by rw [hr7])
  have HR2 : Hid ((renameR r p.data.toList t.data.toList).2 = r7) := Lib.hid (by rw [hr7])
  have hp9 : p.size ≤ 281474976710656 := by omega
  have ht9 : t.size ≤ 281474976710656 := by omega
  have hp8 : p.size ≤ 1000 := by omega
  have ht8 : t.size ≤ 1000 := by omega
  have hbl8 : b.length ≤ 10000000 := by omega
  have hN9 : N + 3 + nb ≤ 1048576 := by omega
  have hN8 : N ≤ 1048576 := by omega
  clear hok hrb hri hrg hkS hnk M hX hbx hb1 hU hTX hbS DD CC hUl hUS hSl
  clear hq7 hr7
  go_enter Tryz.func9, Tryz.ntmps9
  go_upto_region 11 with (first
    | (at_builtin; refine appIn rfl _ _ rfl W1 b nb bc (B + 1) bA hz1 hnb hnil rfl rfl hrb1 (by omega) ?_; intro v W3 hv hb3
       have hz3 := hb3.size
       obtain ⟨T3, hT3⟩ : ∃ T3 : Nat → Prop, (fun x => T x ∨ (W.heap.size ≤ x ∧ x < W3.heap.size)) = T3 := ⟨_, rfl⟩
       have hbw3 : Below W.heap.size W W3 := HB1.out.trans (hb3.mono HB1.out.size)
       have hTB : T3 B := by rw [← hT3]; exact .inr ⟨by omega, by omega⟩
       have hU3 : ∀ x, U x → T3 x := fun x hx => by rw [← hT3]; exact .inl (HU.out x hx)
       have ho3 : OwnT S T3 w0 D q v nb W3 := by
         have h := HM.out.new hbw3
         rw [hT3] at h
         refine ⟨h, _, (by have h := own_base (b2 := 0) hv (fun _ _ => Nat.zero_le _); rw [hnb] at h; exact h), AllU8.cells b, fun x hx => ?_⟩
         have := World.ownsRow.lt hv x hx
         rw [← hT3]
         exact .inr ⟨by omega, by omega⟩
       have hvU : ∀ x, v.ownBlock = some x → ¬ U x ∧ x < W3.heap.size := fun x hx => by
         have h1 := World.ownsRow.lt hv x hx
         exact ⟨fun hu => by have := HUL.out x hu; omega, h1.2⟩
       have hc : ∀ V, Off (fun x => ¬ (S x ∨ T3 x)) W3 V → Blk B (.cells #[.int .i64 kd, .string p, .string t, .slice bA nb bc, .int .i64 n, .slice kA nk kc] 31 (0, 0)) V := fun V o => o.blk ((Off.of_below hb3).blk HBX.out (fun h => h)) (fun h => h (.inr hTB))
       have hx3 : ∀ V, Off (fun x => ¬ (S x ∨ T3 x)) W3 V → ∃ G, RD U X G r V := fun V o => by
         obtain ⟨G, hG⟩ := HX.out
         exact ⟨G, (hG.off (Off.of_below hbw3) (fun _ _ h => h)).off o (fun x hx h => h (.inr (hU3 x hx)))⟩
       have hl3 : ∀ x, U x → x < W3.heap.size := fun x hx => by have := HUL.out x hx; omega
       have hrv : ∀ V, Off (fun x => ¬ (S x ∨ T3 x)) W3 V → RB V bA b := fun V o hz => by
         obtain ⟨b', off, he, hbl', hcs⟩ := (HRB.out) hz
         have h2 := hbw3.size
         have h3 := o.size
         exact ⟨b', off, he, by omega, fun j hj => o.cell ((Off.of_below hbw3).cell (hcs j hj) (fun h => h)) (fun h => h (.inl (HBS.out (by rw [← HNB.out]; exact hz) b' (by rw [he]; rfl))))⟩
       have hrw : ∀ V V2, Off (fun x => ¬ (S x ∨ T3 x)) W3 V → Off U V V2 → RB V2 bA b := fun V V2 o g hz => RB.off (hrv V o) g (fun b' hb' hu => HUS.out b' hu (HBS.out (by rw [← HNB.out]; exact hz) b' hb')) hz
       have hrun := OwnB.read hv
       obtain ⟨A, cv, rfl, hA⟩ := ho3.form
       have e0 : W3.cell? ⟨B, 0, none⟩ = some (.int .i64 kd) := (hc W3 (Off.refl _ _)).cell 0
       have ra3 : RB W3.drew A b := by
         obtain ⟨A', c', he, _, hR, _⟩ := hrun
         injection he with he1 he2 he3
         rw [he1]
         exact hR.below (below_drewN (Below.refl _ _) 1)
       have af3 : 0 < nb → ∀ x, aBlock A = some x → (fun x => S x ∨ T3 x) x ∨ W3.heap.size ≤ x := fun hz x hx => .inl (.inr (by
         obtain ⟨g, hg⟩ := hA hz
         rw [hg] at hx
         exact ho3.2.elim (fun zs hh => hh.2.2 x (by rw [hg]; exact hx))))
       have bd3 : Below W3.heap.size W3 W3.drew := below_drewN (Below.refl _ _) 1
       have md3 : MineS (fun x => S x ∨ T3 x) W3 D q W3.drew := ho3.side.drew
       have HO3 := Lib.hid ho3
       have HC := Lib.hid hc
       have HX3 := Lib.hid hx3
       have HUL3 := Lib.hid hl3
       have HU3 := Lib.hid hU3
       have HVU := Lib.hid hvU
       have HA := Lib.hid hA
       have HRBV := Lib.hid hrv
       have HRBW := Lib.hid hrw
       have HBUn : Hid (¬ U B) := Lib.hid (fun hu => by have := HUL.out B hu; omega)
       clear hv hb3 hT3 hbw3 hTB hU3 ho3 hvU hc hx3 hA c3 hrb1 hrv hrw hrun hl3))
  have hks : ∀ V, Off (fun x => ¬ (S x ∨ T3 x)) W3 V → V.cell? ⟨B, 1, none⟩ = some (.string p) ∧ V.cell? ⟨B, 2, none⟩ = some (.string t) ∧ True := fun V ho => by
    have h := HC.out V ho
    exact ⟨h.cell 1, h.cell 2, trivial⟩
  have hks2 : ∀ V V2, Off (fun x => ¬ (S x ∨ T3 x)) W3 V → Off U V V2 → V2.cell? ⟨B, 1, none⟩ = some (.string p) ∧ V2.cell? ⟨B, 2, none⟩ = some (.string t) ∧ True := fun V V2 ho g => by
    have h := g.blk (HC.out V ho) HBUn.out
    exact ⟨h.cell 1, h.cell 2, trivial⟩
  have KS := Lib.hid hks
  have KS2 := Lib.hid hks2
  clear hks hks2
  go_region_held3 (fun V => V.cell? ⟨B, 1, none⟩ = some (.string p) ∧ V.cell? ⟨B, 2, none⟩ = some (.string t) ∧ True)
    (first | exact KS.out _ (by assumption) | exact KS.out _ (Off.refl _ _).drew | exact KS2.out _ _ (by assumption) (by assumption))
    (first
      | (go_at_call 27; (with_reducible refine (side_rename HO3.out.lt md3 HSM.out hN8 p t hp9 ht9 HQ7.out).mono ?_); rintro e W4 ⟨rfl, M4⟩
         have o4 : Off (fun x => ¬ (S x ∨ T3 x)) W3 W4 := M4.off)
      | (go_at_call 28; (with_reducible refine (ref_rename (HX3.out W4 M4.off) (fun x hx => Nat.lt_of_lt_of_le (HUL3.out x hx) M4.off.size) HDD.out hN HCC.out p t hp8 ht8 e7 r7 HR1.out HR2.out).mono ?_); rintro e W5 ⟨rfl, R5⟩
         have o5 : Off U W4 W5 := R5.2))
  go_wp2_with fail
  obtain ⟨T5, U5, HO5⟩ : ∃ T5 U5 : Nat → Prop, Hid (OwnD S T5 U5 w0 D X q7 r7 (.slice A nb cv) nb W5) := ⟨_, _, Lib.hid (OwnD.of (HO3.out.ret M4) HU3.out (fun x hx => ⟨(HVU.out x hx).1, Nat.lt_of_lt_of_le (HVU.out x hx).2 M4.off.size⟩) R5)⟩
  clear M4 R5 o5 e0 o4 ra3 af3 bd3 md3 KS KS2
  go_loopw [119] (fun i wr => ∃ j : Nat, j ≤ nb ∧ i = .int .i64 (j : Int) ∧ Hid (OwnD S T5 U5 w0 D X q7 r7 (.slice A nb cv) nb wr)) (fun i _ => nb - (RowKit.intOf i).toNat)
  case atStart => exact ⟨0, by omega, rfl, HO5⟩
  case round =>
    clear HO5
    obtain ⟨j, hj, rfl, HO⟩ := hrel
    by_cases hjn : j < nb
    · obtain ⟨g, rfl⟩ := HA.out (by omega)
      obtain ⟨⟨z, hz⟩, hfz⟩ := HO.out.1.at hjn
      go_wp2
      go_roundw
      case rel => exact ⟨j + 1, by omega, by go_num, Lib.hid (HO.out.turn j _)⟩
      case measure => simp [RowKit.intOf]; omega
    · obtain rfl : j = nb := by omega
      go_wp2
      go_ret
      exact ⟨by first | rfl | simp, HO.out.both⟩
set_option maxRecDepth 100000 in
set_option maxHeartbeats 8000000 in
theorem both_remove {S T U : Nat → Prop} {w0 W : World} {D X N : Nat} {q : Q} {r : R} (M : MineT S T w0 D q W) (hX : ∃ G, RD U X G r W) (hU : ∀ b, U b → T b) (DD : Dbl N q r) (CC : COk r) (hN : N ≤ 250000) (o : OpR) (hok : OpOk W o) (hbl : o.b.length ≤ 3000) (hk : kindQ o = 3) (hp : o.path.size ≤ 300) (ht : o.tgt.size ≤ 300) (hbS : 0 < o.b.length → ∀ x, aBlock o.bA = some x → S x) (hkl : o.ks.length ≤ 1000000) (hkS : 0 < o.ks.length → ∀ x, aBlock o.kA = some x → S x) :
    Calls Tryz.prog 9 #[.pointer (some ⟨D, 0, none⟩), .pointer (some ⟨X, 0, none⟩), opAgg o] W fun e w' => e = .returned (.bool true) ∧ Both S w0 D X (tryQ q o).2 (tryR r o).2 w' := by
  have hkq : (IntKind.u64.wrap o.kind).tmod 8 = 3 := hk
  obtain ⟨e7, q7, hq7⟩ : ∃ e q', tryQ q o = (e, q') := ⟨_, _, rfl⟩
  obtain ⟨r7, hr7⟩ : ∃ r', tryR r o = (e7, r') := ⟨(tryR r o).2, by rw [← (show (tryR r o).1 = e7 from by rw [(DD.try o).1, hq7])]⟩
  rw [hq7, hr7]
  unfold tryQ at hq7
  unfold tryR at hr7
  rw [hk] at hq7 hr7
  simp only [reduceIte, show ((3 : Int) = 0) = False by decide, show ((3 : Int) = 1) = False by decide, show ((3 : Int) = 2) = False by decide] at hq7 hr7
  obtain ⟨kd, p, t, bA, bc, b, n, kA, kc, ks⟩ := o
  have hrb := hok.rb
  have hnil := hok.nilb
  have hri := hok.ri
  have hrg := hok.rg
  have hcap := hok.cap
  unfold opAgg
  dsimp only at *
  obtain ⟨nb, hnb⟩ : ∃ x, b.length = x := ⟨_, rfl⟩
  rw [hnb] at hbl hbS ⊢
  obtain ⟨nk, hnk⟩ : ∃ x, ks.length = x := ⟨_, rfl⟩
  rw [hnk] at hkl hcap hkS ⊢
  obtain ⟨B, hB⟩ : ∃ B, W.heap.size = B := ⟨_, rfl⟩
  obtain ⟨W1, hW1⟩ : ∃ V, W.alloc (.cells #[.int .i64 kd, .string p, .string t, .slice bA nb bc, .int .i64 n, .slice kA nk kc] 31) = V := ⟨_, rfl⟩
  have hbx := Blk.new (.cells #[.int .i64 kd, .string p, .string t, .slice bA nb bc, .int .i64 n, .slice kA nk kc] 31 (0, 0)) W
  have hb1 : Below W.heap.size W W1 := by rw [← hW1]; exact (Below.refl _ _).alloc (Nat.le_refl _) _
  have hz1 : W1.heap.size = B + 1 := by rw [← hW1, ← hB]; simp
  rw [hW1, hB] at hbx
  have hrb1 : RB W1 bA b := hrb.below hb1
  have c3 : (W1.alloc (.cells #[] 5)).cell? ⟨B, 3, none⟩ = some (.slice bA nb bc) := ((Below.refl W1.heap.size W1).alloc (Nat.le_refl _) _).cell (p := ⟨B, 3, none⟩) (by show B < _; omega) |>.trans (hbx.cell 3)
  have hUl : ∀ x, U x → x < B := fun x hx => by rw [← hB]; exact M.2.2.1 x (.inr (hU x hx))
  have hSl : ∀ x, S x → x < B := fun x hx => by rw [← hB]; exact M.2.2.1 x (.inl hx)
  have hUS : ∀ x, U x → ¬ S x := fun x hx => M.2.2.2 x (hU x hx)
  obtain ⟨TX, hTX⟩ : ∃ x, bs b = x := ⟨_, rfl⟩
  have HTXE := Lib.hid hTX
  have HBS := Lib.hid hbS
  have HKS := Lib.hid hkS
  have HNB := Lib.hid hnb
  have HNK := Lib.hid hnk
  have HRI := Lib.hid hri
  have HRG := Lib.hid hrg
  have HDD := Lib.hid DD
  have HCC := Lib.hid CC
  have HSM := Lib.hid DD.small
  have HM := Lib.hid M
  have HX := Lib.hid hX
  have HBX := Lib.hid hbx
  have HB1 := Lib.hid hb1
  have HU := Lib.hid hU
  have HUL := Lib.hid hUl
  have HUS := Lib.hid hUS
  have HSL := Lib.hid hSl
  have HRB := Lib.hid hrb
  have HQ7 := Lib.hid hq7
  have HR1 : Hid ((removeR r p.data.toList).1 = e7) := Lib.hid (by rw [hr7])
  have HR2 : Hid ((removeR r p.data.toList).2 = r7) := Lib.hid (by rw [hr7])
  have hp9 : p.size ≤ 281474976710656 := by omega
  have ht9 : t.size ≤ 281474976710656 := by omega
  have hp8 : p.size ≤ 1000 := by omega
  have ht8 : t.size ≤ 1000 := by omega
  have hbl8 : b.length ≤ 10000000 := by omega
  have hN9 : N + 3 + nb ≤ 1048576 := by omega
  have hN8 : N ≤ 1048576 := by omega
  clear hok hrb hri hrg hkS hnk M hX hbx hb1 hU hTX hbS DD CC hUl hUS hSl
  clear hq7 hr7
  go_enter Tryz.func9, Tryz.ntmps9
  go_upto_region 13 with (first
    | (at_builtin; refine appIn rfl _ _ rfl W1 b nb bc (B + 1) bA hz1 hnb hnil rfl rfl hrb1 (by omega) ?_; intro v W3 hv hb3
       have hz3 := hb3.size
       obtain ⟨T3, hT3⟩ : ∃ T3 : Nat → Prop, (fun x => T x ∨ (W.heap.size ≤ x ∧ x < W3.heap.size)) = T3 := ⟨_, rfl⟩
       have hbw3 : Below W.heap.size W W3 := HB1.out.trans (hb3.mono HB1.out.size)
       have hTB : T3 B := by rw [← hT3]; exact .inr ⟨by omega, by omega⟩
       have hU3 : ∀ x, U x → T3 x := fun x hx => by rw [← hT3]; exact .inl (HU.out x hx)
       have ho3 : OwnT S T3 w0 D q v nb W3 := by
         have h := HM.out.new hbw3
         rw [hT3] at h
         refine ⟨h, _, (by have h := own_base (b2 := 0) hv (fun _ _ => Nat.zero_le _); rw [hnb] at h; exact h), AllU8.cells b, fun x hx => ?_⟩
         have := World.ownsRow.lt hv x hx
         rw [← hT3]
         exact .inr ⟨by omega, by omega⟩
       have hvU : ∀ x, v.ownBlock = some x → ¬ U x ∧ x < W3.heap.size := fun x hx => by
         have h1 := World.ownsRow.lt hv x hx
         exact ⟨fun hu => by have := HUL.out x hu; omega, h1.2⟩
       have hc : ∀ V, Off (fun x => ¬ (S x ∨ T3 x)) W3 V → Blk B (.cells #[.int .i64 kd, .string p, .string t, .slice bA nb bc, .int .i64 n, .slice kA nk kc] 31 (0, 0)) V := fun V o => o.blk ((Off.of_below hb3).blk HBX.out (fun h => h)) (fun h => h (.inr hTB))
       have hx3 : ∀ V, Off (fun x => ¬ (S x ∨ T3 x)) W3 V → ∃ G, RD U X G r V := fun V o => by
         obtain ⟨G, hG⟩ := HX.out
         exact ⟨G, (hG.off (Off.of_below hbw3) (fun _ _ h => h)).off o (fun x hx h => h (.inr (hU3 x hx)))⟩
       have hl3 : ∀ x, U x → x < W3.heap.size := fun x hx => by have := HUL.out x hx; omega
       have hrv : ∀ V, Off (fun x => ¬ (S x ∨ T3 x)) W3 V → RB V bA b := fun V o hz => by
         obtain ⟨b', off, he, hbl', hcs⟩ := (HRB.out) hz
         have h2 := hbw3.size
         have h3 := o.size
         exact ⟨b', off, he, by omega, fun j hj => o.cell ((Off.of_below hbw3).cell (hcs j hj) (fun h => h)) (fun h => h (.inl (HBS.out (by rw [← HNB.out]; exact hz) b' (by rw [he]; rfl))))⟩
       have hrw : ∀ V V2, Off (fun x => ¬ (S x ∨ T3 x)) W3 V → Off U V V2 → RB V2 bA b := fun V V2 o g hz => RB.off (hrv V o) g (fun b' hb' hu => HUS.out b' hu (HBS.out (by rw [← HNB.out]; exact hz) b' hb')) hz
       have hrun := OwnB.read hv
       obtain ⟨A, cv, rfl, hA⟩ := ho3.form
       have e0 : W3.cell? ⟨B, 0, none⟩ = some (.int .i64 kd) := (hc W3 (Off.refl _ _)).cell 0
       have ra3 : RB W3.drew A b := by
         obtain ⟨A', c', he, _, hR, _⟩ := hrun
         injection he with he1 he2 he3
         rw [he1]
         exact hR.below (below_drewN (Below.refl _ _) 1)
       have af3 : 0 < nb → ∀ x, aBlock A = some x → (fun x => S x ∨ T3 x) x ∨ W3.heap.size ≤ x := fun hz x hx => .inl (.inr (by
         obtain ⟨g, hg⟩ := hA hz
         rw [hg] at hx
         exact ho3.2.elim (fun zs hh => hh.2.2 x (by rw [hg]; exact hx))))
       have bd3 : Below W3.heap.size W3 W3.drew := below_drewN (Below.refl _ _) 1
       have md3 : MineS (fun x => S x ∨ T3 x) W3 D q W3.drew := ho3.side.drew
       have HO3 := Lib.hid ho3
       have HC := Lib.hid hc
       have HX3 := Lib.hid hx3
       have HUL3 := Lib.hid hl3
       have HU3 := Lib.hid hU3
       have HVU := Lib.hid hvU
       have HA := Lib.hid hA
       have HRBV := Lib.hid hrv
       have HRBW := Lib.hid hrw
       have HBUn : Hid (¬ U B) := Lib.hid (fun hu => by have := HUL.out B hu; omega)
       clear hv hb3 hT3 hbw3 hTB hU3 ho3 hvU hc hx3 hA c3 hrb1 hrv hrw hrun hl3))
  have hks : ∀ V, Off (fun x => ¬ (S x ∨ T3 x)) W3 V → V.cell? ⟨B, 1, none⟩ = some (.string p) ∧ True := fun V ho => by
    have h := HC.out V ho
    exact ⟨h.cell 1, trivial⟩
  have hks2 : ∀ V V2, Off (fun x => ¬ (S x ∨ T3 x)) W3 V → Off U V V2 → V2.cell? ⟨B, 1, none⟩ = some (.string p) ∧ True := fun V V2 ho g => by
    have h := g.blk (HC.out V ho) HBUn.out
    exact ⟨h.cell 1, trivial⟩
  have KS := Lib.hid hks
  have KS2 := Lib.hid hks2
  clear hks hks2
  go_region_held3 (fun V => V.cell? ⟨B, 1, none⟩ = some (.string p) ∧ True)
    (first | exact KS.out _ (by assumption) | exact KS.out _ (Off.refl _ _).drew | exact KS2.out _ _ (by assumption) (by assumption))
    (first
      | (go_at_call 29; (with_reducible refine (side_remove HO3.out.lt md3 HSM.out hN8 p hp9 HQ7.out).mono ?_); rintro e W4 ⟨rfl, M4⟩
         have o4 : Off (fun x => ¬ (S x ∨ T3 x)) W3 W4 := M4.off)
      | (go_at_call 30; (with_reducible refine (ref_remove (HX3.out W4 M4.off) (fun x hx => Nat.lt_of_lt_of_le (HUL3.out x hx) M4.off.size) HDD.out hN HCC.out p hp8 e7 r7 HR1.out HR2.out).mono ?_); rintro e W5 ⟨rfl, R5⟩
         have o5 : Off U W4 W5 := R5.2))
  go_wp2_with fail
  obtain ⟨T5, U5, HO5⟩ : ∃ T5 U5 : Nat → Prop, Hid (OwnD S T5 U5 w0 D X q7 r7 (.slice A nb cv) nb W5) := ⟨_, _, Lib.hid (OwnD.of (HO3.out.ret M4) HU3.out (fun x hx => ⟨(HVU.out x hx).1, Nat.lt_of_lt_of_le (HVU.out x hx).2 M4.off.size⟩) R5)⟩
  clear M4 R5 o5 e0 o4 ra3 af3 bd3 md3 KS KS2
  go_loopw [119] (fun i wr => ∃ j : Nat, j ≤ nb ∧ i = .int .i64 (j : Int) ∧ Hid (OwnD S T5 U5 w0 D X q7 r7 (.slice A nb cv) nb wr)) (fun i _ => nb - (RowKit.intOf i).toNat)
  case atStart => exact ⟨0, by omega, rfl, HO5⟩
  case round =>
    clear HO5
    obtain ⟨j, hj, rfl, HO⟩ := hrel
    by_cases hjn : j < nb
    · obtain ⟨g, rfl⟩ := HA.out (by omega)
      obtain ⟨⟨z, hz⟩, hfz⟩ := HO.out.1.at hjn
      go_wp2
      go_roundw
      case rel => exact ⟨j + 1, by omega, by go_num, Lib.hid (HO.out.turn j _)⟩
      case measure => simp [RowKit.intOf]; omega
    · obtain rfl : j = nb := by omega
      go_wp2
      go_ret
      exact ⟨by first | rfl | simp, HO.out.both⟩
set_option maxRecDepth 100000 in
set_option maxHeartbeats 8000000 in
theorem both_sync {S T U : Nat → Prop} {w0 W : World} {D X N : Nat} {q : Q} {r : R} (M : MineT S T w0 D q W) (hX : ∃ G, RD U X G r W) (hU : ∀ b, U b → T b) (DD : Dbl N q r) (CC : COk r) (hN : N ≤ 250000) (o : OpR) (hok : OpOk W o) (hbl : o.b.length ≤ 3000) (hk : kindQ o = 4) (hp : o.path.size ≤ 300) (ht : o.tgt.size ≤ 300) (hbS : 0 < o.b.length → ∀ x, aBlock o.bA = some x → S x) (hkl : o.ks.length ≤ 1000000) (hkS : 0 < o.ks.length → ∀ x, aBlock o.kA = some x → S x) :
    Calls Tryz.prog 9 #[.pointer (some ⟨D, 0, none⟩), .pointer (some ⟨X, 0, none⟩), opAgg o] W fun e w' => e = .returned (.bool true) ∧ Both S w0 D X (tryQ q o).2 (tryR r o).2 w' := by
  have hkq : (IntKind.u64.wrap o.kind).tmod 8 = 4 := hk
  obtain ⟨e7, q7, hq7⟩ : ∃ e q', tryQ q o = (e, q') := ⟨_, _, rfl⟩
  obtain ⟨r7, hr7⟩ : ∃ r', tryR r o = (e7, r') := ⟨(tryR r o).2, by rw [← (show (tryR r o).1 = e7 from by rw [(DD.try o).1, hq7])]⟩
  rw [hq7, hr7]
  unfold tryQ at hq7
  unfold tryR at hr7
  rw [hk] at hq7 hr7
  simp only [reduceIte, show ((4 : Int) = 0) = False by decide, show ((4 : Int) = 1) = False by decide, show ((4 : Int) = 2) = False by decide, show ((4 : Int) = 3) = False by decide] at hq7 hr7
  obtain ⟨kd, p, t, bA, bc, b, n, kA, kc, ks⟩ := o
  have hrb := hok.rb
  have hnil := hok.nilb
  have hri := hok.ri
  have hrg := hok.rg
  have hcap := hok.cap
  unfold opAgg
  dsimp only at *
  obtain ⟨nb, hnb⟩ : ∃ x, b.length = x := ⟨_, rfl⟩
  rw [hnb] at hbl hbS ⊢
  obtain ⟨nk, hnk⟩ : ∃ x, ks.length = x := ⟨_, rfl⟩
  rw [hnk] at hkl hcap hkS ⊢
  obtain ⟨B, hB⟩ : ∃ B, W.heap.size = B := ⟨_, rfl⟩
  obtain ⟨W1, hW1⟩ : ∃ V, W.alloc (.cells #[.int .i64 kd, .string p, .string t, .slice bA nb bc, .int .i64 n, .slice kA nk kc] 31) = V := ⟨_, rfl⟩
  have hbx := Blk.new (.cells #[.int .i64 kd, .string p, .string t, .slice bA nb bc, .int .i64 n, .slice kA nk kc] 31 (0, 0)) W
  have hb1 : Below W.heap.size W W1 := by rw [← hW1]; exact (Below.refl _ _).alloc (Nat.le_refl _) _
  have hz1 : W1.heap.size = B + 1 := by rw [← hW1, ← hB]; simp
  rw [hW1, hB] at hbx
  have hrb1 : RB W1 bA b := hrb.below hb1
  have c3 : (W1.alloc (.cells #[] 5)).cell? ⟨B, 3, none⟩ = some (.slice bA nb bc) := ((Below.refl W1.heap.size W1).alloc (Nat.le_refl _) _).cell (p := ⟨B, 3, none⟩) (by show B < _; omega) |>.trans (hbx.cell 3)
  have hUl : ∀ x, U x → x < B := fun x hx => by rw [← hB]; exact M.2.2.1 x (.inr (hU x hx))
  have hSl : ∀ x, S x → x < B := fun x hx => by rw [← hB]; exact M.2.2.1 x (.inl hx)
  have hUS : ∀ x, U x → ¬ S x := fun x hx => M.2.2.2 x (hU x hx)
  obtain ⟨TX, hTX⟩ : ∃ x, bs b = x := ⟨_, rfl⟩
  have HTXE := Lib.hid hTX
  have HBS := Lib.hid hbS
  have HKS := Lib.hid hkS
  have HNB := Lib.hid hnb
  have HNK := Lib.hid hnk
  have HRI := Lib.hid hri
  have HRG := Lib.hid hrg
  have HDD := Lib.hid DD
  have HCC := Lib.hid CC
  have HSM := Lib.hid DD.small
  have HM := Lib.hid M
  have HX := Lib.hid hX
  have HBX := Lib.hid hbx
  have HB1 := Lib.hid hb1
  have HU := Lib.hid hU
  have HUL := Lib.hid hUl
  have HUS := Lib.hid hUS
  have HSL := Lib.hid hSl
  have HRB := Lib.hid hrb
  have HQ7 := Lib.hid hq7
  have HR1 : Hid ((syncR r p.data.toList).1 = e7) := Lib.hid (by rw [hr7])
  have HR2 : Hid ((syncR r p.data.toList).2 = r7) := Lib.hid (by rw [hr7])
  have hp9 : p.size ≤ 281474976710656 := by omega
  have ht9 : t.size ≤ 281474976710656 := by omega
  have hp8 : p.size ≤ 1000 := by omega
  have ht8 : t.size ≤ 1000 := by omega
  have hbl8 : b.length ≤ 10000000 := by omega
  have hN9 : N + 3 + nb ≤ 1048576 := by omega
  have hN8 : N ≤ 1048576 := by omega
  clear hok hrb hri hrg hkS hnk M hX hbx hb1 hU hTX hbS DD CC hUl hUS hSl
  clear hq7 hr7
  go_enter Tryz.func9, Tryz.ntmps9
  go_upto_region 15 with (first
    | (at_builtin; refine appIn rfl _ _ rfl W1 b nb bc (B + 1) bA hz1 hnb hnil rfl rfl hrb1 (by omega) ?_; intro v W3 hv hb3
       have hz3 := hb3.size
       obtain ⟨T3, hT3⟩ : ∃ T3 : Nat → Prop, (fun x => T x ∨ (W.heap.size ≤ x ∧ x < W3.heap.size)) = T3 := ⟨_, rfl⟩
       have hbw3 : Below W.heap.size W W3 := HB1.out.trans (hb3.mono HB1.out.size)
       have hTB : T3 B := by rw [← hT3]; exact .inr ⟨by omega, by omega⟩
       have hU3 : ∀ x, U x → T3 x := fun x hx => by rw [← hT3]; exact .inl (HU.out x hx)
       have ho3 : OwnT S T3 w0 D q v nb W3 := by
         have h := HM.out.new hbw3
         rw [hT3] at h
         refine ⟨h, _, (by have h := own_base (b2 := 0) hv (fun _ _ => Nat.zero_le _); rw [hnb] at h; exact h), AllU8.cells b, fun x hx => ?_⟩
         have := World.ownsRow.lt hv x hx
         rw [← hT3]
         exact .inr ⟨by omega, by omega⟩
       have hvU : ∀ x, v.ownBlock = some x → ¬ U x ∧ x < W3.heap.size := fun x hx => by
         have h1 := World.ownsRow.lt hv x hx
         exact ⟨fun hu => by have := HUL.out x hu; omega, h1.2⟩
       have hc : ∀ V, Off (fun x => ¬ (S x ∨ T3 x)) W3 V → Blk B (.cells #[.int .i64 kd, .string p, .string t, .slice bA nb bc, .int .i64 n, .slice kA nk kc] 31 (0, 0)) V := fun V o => o.blk ((Off.of_below hb3).blk HBX.out (fun h => h)) (fun h => h (.inr hTB))
       have hx3 : ∀ V, Off (fun x => ¬ (S x ∨ T3 x)) W3 V → ∃ G, RD U X G r V := fun V o => by
         obtain ⟨G, hG⟩ := HX.out
         exact ⟨G, (hG.off (Off.of_below hbw3) (fun _ _ h => h)).off o (fun x hx h => h (.inr (hU3 x hx)))⟩
       have hl3 : ∀ x, U x → x < W3.heap.size := fun x hx => by have := HUL.out x hx; omega
       have hrv : ∀ V, Off (fun x => ¬ (S x ∨ T3 x)) W3 V → RB V bA b := fun V o hz => by
         obtain ⟨b', off, he, hbl', hcs⟩ := (HRB.out) hz
         have h2 := hbw3.size
         have h3 := o.size
         exact ⟨b', off, he, by omega, fun j hj => o.cell ((Off.of_below hbw3).cell (hcs j hj) (fun h => h)) (fun h => h (.inl (HBS.out (by rw [← HNB.out]; exact hz) b' (by rw [he]; rfl))))⟩
       have hrw : ∀ V V2, Off (fun x => ¬ (S x ∨ T3 x)) W3 V → Off U V V2 → RB V2 bA b := fun V V2 o g hz => RB.off (hrv V o) g (fun b' hb' hu => HUS.out b' hu (HBS.out (by rw [← HNB.out]; exact hz) b' hb')) hz
       have hrun := OwnB.read hv
       obtain ⟨A, cv, rfl, hA⟩ := ho3.form
       have e0 : W3.cell? ⟨B, 0, none⟩ = some (.int .i64 kd) := (hc W3 (Off.refl _ _)).cell 0
       have ra3 : RB W3.drew A b := by
         obtain ⟨A', c', he, _, hR, _⟩ := hrun
         injection he with he1 he2 he3
         rw [he1]
         exact hR.below (below_drewN (Below.refl _ _) 1)
       have af3 : 0 < nb → ∀ x, aBlock A = some x → (fun x => S x ∨ T3 x) x ∨ W3.heap.size ≤ x := fun hz x hx => .inl (.inr (by
         obtain ⟨g, hg⟩ := hA hz
         rw [hg] at hx
         exact ho3.2.elim (fun zs hh => hh.2.2 x (by rw [hg]; exact hx))))
       have bd3 : Below W3.heap.size W3 W3.drew := below_drewN (Below.refl _ _) 1
       have md3 : MineS (fun x => S x ∨ T3 x) W3 D q W3.drew := ho3.side.drew
       have HO3 := Lib.hid ho3
       have HC := Lib.hid hc
       have HX3 := Lib.hid hx3
       have HUL3 := Lib.hid hl3
       have HU3 := Lib.hid hU3
       have HVU := Lib.hid hvU
       have HA := Lib.hid hA
       have HRBV := Lib.hid hrv
       have HRBW := Lib.hid hrw
       have HBUn : Hid (¬ U B) := Lib.hid (fun hu => by have := HUL.out B hu; omega)
       clear hv hb3 hT3 hbw3 hTB hU3 ho3 hvU hc hx3 hA c3 hrb1 hrv hrw hrun hl3))
  have hks : ∀ V, Off (fun x => ¬ (S x ∨ T3 x)) W3 V → V.cell? ⟨B, 1, none⟩ = some (.string p) ∧ True := fun V ho => by
    have h := HC.out V ho
    exact ⟨h.cell 1, trivial⟩
  have hks2 : ∀ V V2, Off (fun x => ¬ (S x ∨ T3 x)) W3 V → Off U V V2 → V2.cell? ⟨B, 1, none⟩ = some (.string p) ∧ True := fun V V2 ho g => by
    have h := g.blk (HC.out V ho) HBUn.out
    exact ⟨h.cell 1, trivial⟩
  have KS := Lib.hid hks
  have KS2 := Lib.hid hks2
  clear hks hks2
  go_region_held3 (fun V => V.cell? ⟨B, 1, none⟩ = some (.string p) ∧ True)
    (first | exact KS.out _ (by assumption) | exact KS.out _ (Off.refl _ _).drew | exact KS2.out _ _ (by assumption) (by assumption))
    (first
      | (go_at_call 19; (with_reducible refine (side_sync HO3.out.lt md3 HSM.out hN8 p hp9 HQ7.out).mono ?_); rintro e W4 ⟨rfl, M4⟩
         have o4 : Off (fun x => ¬ (S x ∨ T3 x)) W3 W4 := M4.off)
      | (go_at_call 31; (with_reducible refine (ref_sync (HX3.out W4 M4.off) (fun x hx => Nat.lt_of_lt_of_le (HUL3.out x hx) M4.off.size) HDD.out hN HCC.out p hp8 e7 r7 HR1.out HR2.out).mono ?_); rintro e W5 ⟨rfl, R5⟩
         have o5 : Off U W4 W5 := R5.2))
  go_wp2_with fail
  obtain ⟨T5, U5, HO5⟩ : ∃ T5 U5 : Nat → Prop, Hid (OwnD S T5 U5 w0 D X q7 r7 (.slice A nb cv) nb W5) := ⟨_, _, Lib.hid (OwnD.of (HO3.out.ret M4) HU3.out (fun x hx => ⟨(HVU.out x hx).1, Nat.lt_of_lt_of_le (HVU.out x hx).2 M4.off.size⟩) R5)⟩
  clear M4 R5 o5 e0 o4 ra3 af3 bd3 md3 KS KS2
  go_loopw [119] (fun i wr => ∃ j : Nat, j ≤ nb ∧ i = .int .i64 (j : Int) ∧ Hid (OwnD S T5 U5 w0 D X q7 r7 (.slice A nb cv) nb wr)) (fun i _ => nb - (RowKit.intOf i).toNat)
  case atStart => exact ⟨0, by omega, rfl, HO5⟩
  case round =>
    clear HO5
    obtain ⟨j, hj, rfl, HO⟩ := hrel
    by_cases hjn : j < nb
    · obtain ⟨g, rfl⟩ := HA.out (by omega)
      obtain ⟨⟨z, hz⟩, hfz⟩ := HO.out.1.at hjn
      go_wp2
      go_roundw
      case rel => exact ⟨j + 1, by omega, by go_num, Lib.hid (HO.out.turn j _)⟩
      case measure => simp [RowKit.intOf]; omega
    · obtain rfl : j = nb := by omega
      go_wp2
      go_ret
      exact ⟨by first | rfl | simp, HO.out.both⟩
set_option maxRecDepth 100000 in
set_option maxHeartbeats 8000000 in
theorem both_syncDir {S T U : Nat → Prop} {w0 W : World} {D X N : Nat} {q : Q} {r : R} (M : MineT S T w0 D q W) (hX : ∃ G, RD U X G r W) (hU : ∀ b, U b → T b) (DD : Dbl N q r) (CC : COk r) (hN : N ≤ 250000) (o : OpR) (hok : OpOk W o) (hbl : o.b.length ≤ 3000) (hk : kindQ o = 5) (hp : o.path.size ≤ 300) (ht : o.tgt.size ≤ 300) (hbS : 0 < o.b.length → ∀ x, aBlock o.bA = some x → S x) (hkl : o.ks.length ≤ 1000000) (hkS : 0 < o.ks.length → ∀ x, aBlock o.kA = some x → S x) :
    Calls Tryz.prog 9 #[.pointer (some ⟨D, 0, none⟩), .pointer (some ⟨X, 0, none⟩), opAgg o] W fun e w' => e = .returned (.bool true) ∧ Both S w0 D X (tryQ q o).2 (tryR r o).2 w' := by
  have hkq : (IntKind.u64.wrap o.kind).tmod 8 = 5 := hk
  obtain ⟨e7, q7, hq7⟩ : ∃ e q', tryQ q o = (e, q') := ⟨_, _, rfl⟩
  obtain ⟨r7, hr7⟩ : ∃ r', tryR r o = (e7, r') := ⟨(tryR r o).2, by rw [← (show (tryR r o).1 = e7 from by rw [(DD.try o).1, hq7])]⟩
  rw [hq7, hr7]
  unfold tryQ at hq7
  unfold tryR at hr7
  rw [hk] at hq7 hr7
  simp only [reduceIte, show ((5 : Int) = 0) = False by decide, show ((5 : Int) = 1) = False by decide, show ((5 : Int) = 2) = False by decide, show ((5 : Int) = 3) = False by decide, show ((5 : Int) = 4) = False by decide] at hq7 hr7
  obtain ⟨kd, p, t, bA, bc, b, n, kA, kc, ks⟩ := o
  have hrb := hok.rb
  have hnil := hok.nilb
  have hri := hok.ri
  have hrg := hok.rg
  have hcap := hok.cap
  unfold opAgg
  dsimp only at *
  obtain ⟨nb, hnb⟩ : ∃ x, b.length = x := ⟨_, rfl⟩
  rw [hnb] at hbl hbS ⊢
  obtain ⟨nk, hnk⟩ : ∃ x, ks.length = x := ⟨_, rfl⟩
  rw [hnk] at hkl hcap hkS ⊢
  obtain ⟨B, hB⟩ : ∃ B, W.heap.size = B := ⟨_, rfl⟩
  obtain ⟨W1, hW1⟩ : ∃ V, W.alloc (.cells #[.int .i64 kd, .string p, .string t, .slice bA nb bc, .int .i64 n, .slice kA nk kc] 31) = V := ⟨_, rfl⟩
  have hbx := Blk.new (.cells #[.int .i64 kd, .string p, .string t, .slice bA nb bc, .int .i64 n, .slice kA nk kc] 31 (0, 0)) W
  have hb1 : Below W.heap.size W W1 := by rw [← hW1]; exact (Below.refl _ _).alloc (Nat.le_refl _) _
  have hz1 : W1.heap.size = B + 1 := by rw [← hW1, ← hB]; simp
  rw [hW1, hB] at hbx
  have hrb1 : RB W1 bA b := hrb.below hb1
  have c3 : (W1.alloc (.cells #[] 5)).cell? ⟨B, 3, none⟩ = some (.slice bA nb bc) := ((Below.refl W1.heap.size W1).alloc (Nat.le_refl _) _).cell (p := ⟨B, 3, none⟩) (by show B < _; omega) |>.trans (hbx.cell 3)
  have hUl : ∀ x, U x → x < B := fun x hx => by rw [← hB]; exact M.2.2.1 x (.inr (hU x hx))
  have hSl : ∀ x, S x → x < B := fun x hx => by rw [← hB]; exact M.2.2.1 x (.inl hx)
  have hUS : ∀ x, U x → ¬ S x := fun x hx => M.2.2.2 x (hU x hx)
  obtain ⟨TX, hTX⟩ : ∃ x, bs b = x := ⟨_, rfl⟩
  have HTXE := Lib.hid hTX
  have HBS := Lib.hid hbS
  have HKS := Lib.hid hkS
  have HNB := Lib.hid hnb
  have HNK := Lib.hid hnk
  have HRI := Lib.hid hri
  have HRG := Lib.hid hrg
  have HDD := Lib.hid DD
  have HCC := Lib.hid CC
  have HSM := Lib.hid DD.small
  have HM := Lib.hid M
  have HX := Lib.hid hX
  have HBX := Lib.hid hbx
  have HB1 := Lib.hid hb1
  have HU := Lib.hid hU
  have HUL := Lib.hid hUl
  have HUS := Lib.hid hUS
  have HSL := Lib.hid hSl
  have HRB := Lib.hid hrb
  have HQ7 := Lib.hid hq7
  have HR1 : Hid ((syncDirR r p.data.toList).1 = e7) := Lib.hid (by rw [hr7])
  have HR2 : Hid ((syncDirR r p.data.toList).2 = r7) := Lib.hid (by rw [hr7])
  have hp9 : p.size ≤ 281474976710656 := by omega
  have ht9 : t.size ≤ 281474976710656 := by omega
  have hp8 : p.size ≤ 1000 := by omega
  have ht8 : t.size ≤ 1000 := by omega
  have hbl8 : b.length ≤ 10000000 := by omega
  have hN9 : N + 3 + nb ≤ 1048576 := by omega
  have hN8 : N ≤ 1048576 := by omega
  clear hok hrb hri hrg hkS hnk M hX hbx hb1 hU hTX hbS DD CC hUl hUS hSl
  clear hq7 hr7
  go_enter Tryz.func9, Tryz.ntmps9
  go_upto_region 17 with (first
    | (at_builtin; refine appIn rfl _ _ rfl W1 b nb bc (B + 1) bA hz1 hnb hnil rfl rfl hrb1 (by omega) ?_; intro v W3 hv hb3
       have hz3 := hb3.size
       obtain ⟨T3, hT3⟩ : ∃ T3 : Nat → Prop, (fun x => T x ∨ (W.heap.size ≤ x ∧ x < W3.heap.size)) = T3 := ⟨_, rfl⟩
       have hbw3 : Below W.heap.size W W3 := HB1.out.trans (hb3.mono HB1.out.size)
       have hTB : T3 B := by rw [← hT3]; exact .inr ⟨by omega, by omega⟩
       have hU3 : ∀ x, U x → T3 x := fun x hx => by rw [← hT3]; exact .inl (HU.out x hx)
       have ho3 : OwnT S T3 w0 D q v nb W3 := by
         have h := HM.out.new hbw3
         rw [hT3] at h
         refine ⟨h, _, (by have h := own_base (b2 := 0) hv (fun _ _ => Nat.zero_le _); rw [hnb] at h; exact h), AllU8.cells b, fun x hx => ?_⟩
         have := World.ownsRow.lt hv x hx
         rw [← hT3]
         exact .inr ⟨by omega, by omega⟩
       have hvU : ∀ x, v.ownBlock = some x → ¬ U x ∧ x < W3.heap.size := fun x hx => by
         have h1 := World.ownsRow.lt hv x hx
         exact ⟨fun hu => by have := HUL.out x hu; omega, h1.2⟩
       have hc : ∀ V, Off (fun x => ¬ (S x ∨ T3 x)) W3 V → Blk B (.cells #[.int .i64 kd, .string p, .string t, .slice bA nb bc, .int .i64 n, .slice kA nk kc] 31 (0, 0)) V := fun V o => o.blk ((Off.of_below hb3).blk HBX.out (fun h => h)) (fun h => h (.inr hTB))
       have hx3 : ∀ V, Off (fun x => ¬ (S x ∨ T3 x)) W3 V → ∃ G, RD U X G r V := fun V o => by
         obtain ⟨G, hG⟩ := HX.out
         exact ⟨G, (hG.off (Off.of_below hbw3) (fun _ _ h => h)).off o (fun x hx h => h (.inr (hU3 x hx)))⟩
       have hl3 : ∀ x, U x → x < W3.heap.size := fun x hx => by have := HUL.out x hx; omega
       have hrv : ∀ V, Off (fun x => ¬ (S x ∨ T3 x)) W3 V → RB V bA b := fun V o hz => by
         obtain ⟨b', off, he, hbl', hcs⟩ := (HRB.out) hz
         have h2 := hbw3.size
         have h3 := o.size
         exact ⟨b', off, he, by omega, fun j hj => o.cell ((Off.of_below hbw3).cell (hcs j hj) (fun h => h)) (fun h => h (.inl (HBS.out (by rw [← HNB.out]; exact hz) b' (by rw [he]; rfl))))⟩
       have hrw : ∀ V V2, Off (fun x => ¬ (S x ∨ T3 x)) W3 V → Off U V V2 → RB V2 bA b := fun V V2 o g hz => RB.off (hrv V o) g (fun b' hb' hu => HUS.out b' hu (HBS.out (by rw [← HNB.out]; exact hz) b' hb')) hz
       have hrun := OwnB.read hv
       obtain ⟨A, cv, rfl, hA⟩ := ho3.form
       have e0 : W3.cell? ⟨B, 0, none⟩ = some (.int .i64 kd) := (hc W3 (Off.refl _ _)).cell 0
       have ra3 : RB W3.drew A b := by
         obtain ⟨A', c', he, _, hR, _⟩ := hrun
         injection he with he1 he2 he3
         rw [he1]
         exact hR.below (below_drewN (Below.refl _ _) 1)
       have af3 : 0 < nb → ∀ x, aBlock A = some x → (fun x => S x ∨ T3 x) x ∨ W3.heap.size ≤ x := fun hz x hx => .inl (.inr (by
         obtain ⟨g, hg⟩ := hA hz
         rw [hg] at hx
         exact ho3.2.elim (fun zs hh => hh.2.2 x (by rw [hg]; exact hx))))
       have bd3 : Below W3.heap.size W3 W3.drew := below_drewN (Below.refl _ _) 1
       have md3 : MineS (fun x => S x ∨ T3 x) W3 D q W3.drew := ho3.side.drew
       have HO3 := Lib.hid ho3
       have HC := Lib.hid hc
       have HX3 := Lib.hid hx3
       have HUL3 := Lib.hid hl3
       have HU3 := Lib.hid hU3
       have HVU := Lib.hid hvU
       have HA := Lib.hid hA
       have HRBV := Lib.hid hrv
       have HRBW := Lib.hid hrw
       have HBUn : Hid (¬ U B) := Lib.hid (fun hu => by have := HUL.out B hu; omega)
       clear hv hb3 hT3 hbw3 hTB hU3 ho3 hvU hc hx3 hA c3 hrb1 hrv hrw hrun hl3))
  have hks : ∀ V, Off (fun x => ¬ (S x ∨ T3 x)) W3 V → V.cell? ⟨B, 1, none⟩ = some (.string p) ∧ True := fun V ho => by
    have h := HC.out V ho
    exact ⟨h.cell 1, trivial⟩
  have hks2 : ∀ V V2, Off (fun x => ¬ (S x ∨ T3 x)) W3 V → Off U V V2 → V2.cell? ⟨B, 1, none⟩ = some (.string p) ∧ True := fun V V2 ho g => by
    have h := g.blk (HC.out V ho) HBUn.out
    exact ⟨h.cell 1, trivial⟩
  have KS := Lib.hid hks
  have KS2 := Lib.hid hks2
  clear hks hks2
  go_region_held3 (fun V => V.cell? ⟨B, 1, none⟩ = some (.string p) ∧ True)
    (first | exact KS.out _ (by assumption) | exact KS.out _ (Off.refl _ _).drew | exact KS2.out _ _ (by assumption) (by assumption))
    (first
      | (go_at_call 20; (with_reducible refine (side_syncDir HO3.out.lt md3 HSM.out hN8 p hp9 HQ7.out).mono ?_); rintro e W4 ⟨rfl, M4⟩
         have o4 : Off (fun x => ¬ (S x ∨ T3 x)) W3 W4 := M4.off)
      | (go_at_call 32; (with_reducible refine (ref_syncDir (HX3.out W4 M4.off) (fun x hx => Nat.lt_of_lt_of_le (HUL3.out x hx) M4.off.size) HDD.out hN HCC.out p hp8 e7 r7 HR1.out HR2.out).mono ?_); rintro e W5 ⟨rfl, R5⟩
         have o5 : Off U W4 W5 := R5.2))
  go_wp2_with fail
  obtain ⟨T5, U5, HO5⟩ : ∃ T5 U5 : Nat → Prop, Hid (OwnD S T5 U5 w0 D X q7 r7 (.slice A nb cv) nb W5) := ⟨_, _, Lib.hid (OwnD.of (HO3.out.ret M4) HU3.out (fun x hx => ⟨(HVU.out x hx).1, Nat.lt_of_lt_of_le (HVU.out x hx).2 M4.off.size⟩) R5)⟩
  clear M4 R5 o5 e0 o4 ra3 af3 bd3 md3 KS KS2
  go_loopw [119] (fun i wr => ∃ j : Nat, j ≤ nb ∧ i = .int .i64 (j : Int) ∧ Hid (OwnD S T5 U5 w0 D X q7 r7 (.slice A nb cv) nb wr)) (fun i _ => nb - (RowKit.intOf i).toNat)
  case atStart => exact ⟨0, by omega, rfl, HO5⟩
  case round =>
    clear HO5
    obtain ⟨j, hj, rfl, HO⟩ := hrel
    by_cases hjn : j < nb
    · obtain ⟨g, rfl⟩ := HA.out (by omega)
      obtain ⟨⟨z, hz⟩, hfz⟩ := HO.out.1.at hjn
      go_wp2
      go_roundw
      case rel => exact ⟨j + 1, by omega, by go_num, Lib.hid (HO.out.turn j _)⟩
      case measure => simp [RowKit.intOf]; omega
    · obtain rfl : j = nb := by omega
      go_wp2
      go_ret
      exact ⟨by first | rfl | simp, HO.out.both⟩
end Go.Proofs.YtbodkjifpmencaaGreat
