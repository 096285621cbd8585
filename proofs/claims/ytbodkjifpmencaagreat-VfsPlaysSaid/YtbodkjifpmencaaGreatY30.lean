/-
  The law's do of the acts that may fail, beside a new disk of the document's without room. No conditions.
-/
import Derived.Test.YtbodkjifpmencaaGreatY29
import Derived.Test.YtbodkjifpmencaaGreatY19
namespace Go.Proofs.YtbodkjifpmencaaGreat
open Go.RowKit
open Go.Lib

theorem conv_slice {w : World} {A : Option Addr} {l : Bs} {n : Nat} (c : Nat) (hn : l.length = n) (h : RB w A l) : (convert 28 9 (.slice A n c)).run Tryz.prog w = .ok (.string (bs l)) w := by
  subst hn
  exact conv_rb c h
set_option maxRecDepth 100000 in
set_option maxHeartbeats 4000000 in
theorem do_write {S T : Nat → Prop} {w0 W : World} {D X N : Nat} {q : Q} (M : MineT S T w0 D q W) (hX : EmptyD X W) (hT : T X) (o : OpR) (hok : OpOk W o) (hbl : o.b.length ≤ 10000000) (hk : kindQ o = 0) (hS : Small N q) (hN : N + 3 + o.b.length ≤ 1048576) (hp : o.path.size ≤ 281474976710656) (ht : o.tgt.size ≤ 281474976710656) (hbS : 0 < o.b.length → ∀ x, aBlock o.bA = some x → S x) :
    Calls Tryz.prog 9 #[.pointer (some ⟨D, 0, none⟩), .pointer (some ⟨X, 0, none⟩), opAgg o] W fun e w' => (∃ b, e = .returned (.bool b)) ∧ MineT S T w0 D (tryQ q o).2 w' := by
  have hkq : (IntKind.u64.wrap o.kind).tmod 8 = 0 := hk
  obtain ⟨e7, q7, hq7⟩ : ∃ e q', tryQ q o = (e, q') := ⟨_, _, rfl⟩
  rw [hq7]
  unfold tryQ at hq7
  rw [hk] at hq7
  simp only [reduceIte] at hq7
  obtain ⟨kd, p, t, bA, bc, b, n, kA, kc, ks⟩ := o
  have hrb := hok.rb
  have hnil := hok.nilb
  unfold opAgg
  dsimp only at *
  obtain ⟨nb, hnb⟩ : ∃ x, b.length = x := ⟨_, rfl⟩
  rw [hnb] at hbl hN hbS ⊢
  have hN2 : N ≤ 1048576 := by omega
  obtain ⟨nk, hnk⟩ : ∃ x, ks.length = x := ⟨_, rfl⟩
  rw [hnk]
  obtain ⟨B, hB⟩ : ∃ B, W.heap.size = B := ⟨_, rfl⟩
  obtain ⟨W1, hW1⟩ : ∃ V, W.alloc (.cells #[.int .i64 kd, .string p, .string t, .slice bA nb bc, .int .i64 n, .slice kA nk kc] 31) = V := ⟨_, rfl⟩
  have hbx := Blk.new (.cells #[.int .i64 kd, .string p, .string t, .slice bA nb bc, .int .i64 n, .slice kA nk kc] 31 (0, 0)) W
  have hb1 : Below W.heap.size W W1 := by rw [← hW1]; exact (Below.refl _ _).alloc (Nat.le_refl _) _
  have hz1 : W1.heap.size = B + 1 := by rw [← hW1, ← hB]; simp
  rw [hW1, hB] at hbx
  have hrb1 : RB W1 bA b := hrb.below hb1
  have c3 : (W1.alloc (.cells #[] 5)).cell? ⟨B, 3, none⟩ = some (.slice bA nb bc) := ((Below.refl W1.heap.size W1).alloc (Nat.le_refl _) _).cell (p := ⟨B, 3, none⟩) (by show B < _; omega) |>.trans (hbx.cell 3)
  have hxB : X < B := by have := hX.lt; omega
  obtain ⟨TX, hTX⟩ : ∃ x, bs b = x := ⟨_, rfl⟩
  have HTX2 : Hid (TX.size ≤ 10000000) := Lib.hid (by rw [← hTX, bs_size]; omega)
  have HTXE := Lib.hid hTX
  have HBS := Lib.hid hbS
  have HNB := Lib.hid hnb
  have HQ7 := Lib.hid hq7
  have HSM := Lib.hid hS
  have HM := Lib.hid M
  have HX := Lib.hid hX
  have HBX := Lib.hid hbx
  have HB1 := Lib.hid hb1
  have HT := Lib.hid hT
  have HR1 := Lib.hid hrb1
  clear hok hrb M hX hbx hb1 hT hTX hbS hq7 hS
  go_enter Tryz.func9, Tryz.ntmps9
  go_upto_region 7 with (first
    | (at_builtin; refine appIn rfl _ _ rfl W1 b nb bc (B + 1) bA hz1 hnb hnil rfl rfl hrb1 hbl ?_; intro v W3 hv hb3
       have hz3 := hb3.size
       obtain ⟨T3, hT3⟩ : ∃ T3 : Nat → Prop, (fun x => T x ∨ (W.heap.size ≤ x ∧ x < W3.heap.size)) = T3 := ⟨_, rfl⟩
       have hbw3 : Below W.heap.size W W3 := HB1.out.trans (hb3.mono HB1.out.size)
       have hTX : T3 X := by rw [← hT3]; exact .inl HT.out
       have hTB : T3 B := by rw [← hT3]; exact .inr ⟨by omega, by omega⟩
       have HLE : Hid (∀ x, T x → T3 x) := Lib.hid (fun x hx => by rw [← hT3]; exact .inl hx)
       have ho3 : OwnT S T3 w0 D q v nb W3 := by
         have h := HM.out.new hbw3
         rw [hT3] at h
         refine ⟨h, _, (by have h := own_base (b2 := 0) hv (fun _ _ => Nat.zero_le _); rw [hnb] at h; exact h), AllU8.cells b, fun x hx => ?_⟩
         have := World.ownsRow.lt hv x hx
         rw [← hT3]
         exact .inr ⟨by omega, by omega⟩
       have hvX : v.ownBlock ≠ some X := fun e => by have := World.ownsRow.lt hv X e; omega
       have hc : ∀ V, Off (fun x => ¬ (S x ∨ T3 x)) W3 V → Blk B (.cells #[.int .i64 kd, .string p, .string t, .slice bA nb bc, .int .i64 n, .slice kA nk kc] 31 (0, 0)) V := fun V o => o.blk ((Off.of_below hb3).blk HBX.out (fun h => h)) (fun h => h (.inr hTB))
       have hx3 : ∀ V, Off (fun x => ¬ (S x ∨ T3 x)) W3 V → EmptyD X V := fun V o => ((HX.out.off (Off.of_below hbw3) (fun h => h)).off o (fun h => h (.inr hTX)))
       have hrv : ∀ V, Off (fun x => ¬ (S x ∨ T3 x)) W3 V → RB V bA b := fun V o hz => by
         obtain ⟨b', off, he, hbl', hcs⟩ := HR1.out hz
         have h2 := hb3.size
         have h3 := o.size
         exact ⟨b', off, he, by omega, fun j hj => o.cell ((Off.of_below hb3).cell (hcs j hj) (fun h => h)) (fun h => h (.inl (HBS.out (by rw [← HNB.out]; exact hz) b' (by rw [he]; rfl))))⟩
       have hrw : ∀ V V2, Off (fun x => ¬ (S x ∨ T3 x)) W3 V → V.grownBy V2 (some X) → RB V2 bA b := fun V V2 o g hz => RB.off (hrv V o) (Off.of_grown g) (fun b' hb' e => by
         cases e
         exact ho3.mine.2.2.2 X hTX (HBS.out (by rw [← HNB.out]; exact hz) X hb')) hz
       have hrun := OwnB.read hv
       obtain ⟨A, cv, rfl, hA⟩ := ho3.form
       have e0 : W3.cell? ⟨B, 0, none⟩ = some (.int .i64 kd) := (hc W3 (Off.refl _ _)).cell 0
       have ra3 : RB W3.drew A b := by
         obtain ⟨A', c', he, _, hR, _⟩ := hrun
         injection he with he1 he2 he3
         rw [he1]
         exact hR.below (below_drewN (Below.refl _ _) 1)
       have af3 : 0 < nb → ∀ x, aBlock A = some x → (fun x => S x ∨ T3 x) x ∨ W3.heap.size ≤ x := fun hz x hx => .inl (.inr (by
         obtain ⟨g, hg⟩ := hA hz
         rw [hg] at hx
         exact ho3.2.elim (fun zs hh => hh.2.2 x (by rw [hg]; exact hx))))
       have bd3 : Below W3.heap.size W3 W3.drew := below_drewN (Below.refl _ _) 1
       have md3 : MineS (fun x => S x ∨ T3 x) W3 D q W3.drew := ho3.side.drew
       have HO3 := Lib.hid ho3
       have HC := Lib.hid hc
       have HX3 := Lib.hid hx3
       have HTX := Lib.hid hTX
       have HA := Lib.hid hA
       have HRBV := Lib.hid hrv
       have HRBW := Lib.hid hrw
       have HBXn : B ≠ X := by omega
       clear hv hb3 hT3 hbw3 hTX hTB ho3 hc hx3 hA c3 hrb1 hrv hrw hrun))
  have hks : ∀ V, Off (fun x => ¬ (S x ∨ T3 x)) W3 V → V.cell? ⟨B, 1, none⟩ = some (.string p) ∧ V.cell? ⟨B, 3, none⟩ = some (.slice bA nb bc) ∧ (convert 28 9 (.slice bA nb bc)).run Tryz.prog V = .ok (.string TX) V := fun V ho => by
    have h := HC.out V ho
    exact ⟨h.cell 1, h.cell 3, (conv_slice bc HNB.out (HRBV.out V ho)).trans (by rw [HTXE.out])⟩
  have hks2 : ∀ V V2, Off (fun x => ¬ (S x ∨ T3 x)) W3 V → V.grownBy V2 (some X) → V2.cell? ⟨B, 1, none⟩ = some (.string p) ∧ V2.cell? ⟨B, 3, none⟩ = some (.slice bA nb bc) ∧ (convert 28 9 (.slice bA nb bc)).run Tryz.prog V2 = .ok (.string TX) V2 := fun V V2 ho g => by
    have h := (HC.out V ho).grown g (by intro e; exact HBXn (Option.some.inj e))
    exact ⟨h.cell 1, h.cell 3, (conv_slice bc HNB.out (HRBW.out V V2 ho g)).trans (by rw [HTXE.out])⟩
  have KS := Lib.hid hks
  have KS2 := Lib.hid hks2
  clear hks hks2
  go_region_held3 (fun V => V.cell? ⟨B, 1, none⟩ = some (.string p) ∧ V.cell? ⟨B, 3, none⟩ = some (.slice bA nb bc) ∧ (convert 28 9 (.slice bA nb bc)).run Tryz.prog V = .ok (.string TX) V)
    (first | exact KS.out _ (by assumption) | exact KS.out _ (Off.refl _ _).drew | exact KS2.out _ _ (by assumption) (by assumption))
    (first
      | (go_at_call 18; (with_reducible refine (side_write HO3.out.lt HO3.out.side bd3 HSM.out p hp b nb HNB.out A cv ra3 af3 hN HQ7.out).mono ?_); rintro e W4 ⟨rfl, M4⟩
         have o4 : Off (fun x => ¬ (S x ∨ T3 x)) W3 W4 := M4.off)
      | (go_at_call 25; (with_reducible refine (refwrite_any (HX3.out W4 M4.off) p TX hp HTX2.out).mono ?_); rintro e W5 ⟨⟨z5, rfl⟩, g5⟩))
  go_wp2_with fail
  have HO5 := Lib.hid ((HO3.out.ret M4).own g5 HTX.out hvX)
  clear M4 g5 e0 o4 ra3 af3 bd3 md3 KS KS2
  go_loopw [119] (fun i wr => ∃ j : Nat, j ≤ nb ∧ i = .int .i64 (j : Int) ∧ Hid (OwnT S T3 w0 D q7 (.slice A nb cv) nb wr)) (fun i _ => nb - (RowKit.intOf i).toNat)
  case atStart => exact ⟨0, by omega, rfl, HO5⟩
  case round =>
    clear HO5
    obtain ⟨j, hj, rfl, HO⟩ := hrel
    by_cases hjn : j < nb
    · obtain ⟨g, rfl⟩ := HA.out (by omega)
      obtain ⟨⟨z, hz⟩, hfz⟩ := HO.out.at hjn
      go_wp2
      go_roundw
      case rel => exact ⟨j + 1, by omega, by go_num, Lib.hid (HO.out.turn j _)⟩
      case measure => simp [RowKit.intOf]; omega
    · obtain rfl : j = nb := by omega
      go_wp2
      go_ret
      exact ⟨⟨_, rfl⟩, HO.out.mine.less HLE.out⟩
set_option maxRecDepth 100000 in
set_option maxHeartbeats 4000000 in
theorem do_append {S T : Nat → Prop} {w0 W : World} {D X N : Nat} {q : Q} (M : MineT S T w0 D q W) (hX : EmptyD X W) (hT : T X) (o : OpR) (hok : OpOk W o) (hbl : o.b.length ≤ 10000000) (hk : kindQ o = 1) (hS : Small N q) (hN : N + 3 + o.b.length ≤ 1048576) (hp : o.path.size ≤ 281474976710656) (ht : o.tgt.size ≤ 281474976710656) (hbS : 0 < o.b.length → ∀ x, aBlock o.bA = some x → S x) :
    Calls Tryz.prog 9 #[.pointer (some ⟨D, 0, none⟩), .pointer (some ⟨X, 0, none⟩), opAgg o] W fun e w' => (∃ b, e = .returned (.bool b)) ∧ MineT S T w0 D (tryQ q o).2 w' := by
  have hkq : (IntKind.u64.wrap o.kind).tmod 8 = 1 := hk
  obtain ⟨e7, q7, hq7⟩ : ∃ e q', tryQ q o = (e, q') := ⟨_, _, rfl⟩
  rw [hq7]
  unfold tryQ at hq7
  rw [hk] at hq7
  simp only [reduceIte, show ((1 : Int) = 0) = False by decide] at hq7
  obtain ⟨kd, p, t, bA, bc, b, n, kA, kc, ks⟩ := o
  have hrb := hok.rb
  have hnil := hok.nilb
  unfold opAgg
  dsimp only at *
  obtain ⟨nb, hnb⟩ : ∃ x, b.length = x := ⟨_, rfl⟩
  rw [hnb] at hbl hN hbS ⊢
  have hN2 : N ≤ 1048576 := by omega
  obtain ⟨nk, hnk⟩ : ∃ x, ks.length = x := ⟨_, rfl⟩
  rw [hnk]
  obtain ⟨B, hB⟩ : ∃ B, W.heap.size = B := ⟨_, rfl⟩
  obtain ⟨W1, hW1⟩ : ∃ V, W.alloc (.cells #[.int .i64 kd, .string p, .string t, .slice bA nb bc, .int .i64 n, .slice kA nk kc] 31) = V := ⟨_, rfl⟩
  have hbx := Blk.new (.cells #[.int .i64 kd, .string p, .string t, .slice bA nb bc, .int .i64 n, .slice kA nk kc] 31 (0, 0)) W
  have hb1 : Below W.heap.size W W1 := by rw [← hW1]; exact (Below.refl _ _).alloc (Nat.le_refl _) _
  have hz1 : W1.heap.size = B + 1 := by rw [← hW1, ← hB]; simp
  rw [hW1, hB] at hbx
  have hrb1 : RB W1 bA b := hrb.below hb1
  have c3 : (W1.alloc (.cells #[] 5)).cell? ⟨B, 3, none⟩ = some (.slice bA nb bc) := ((Below.refl W1.heap.size W1).alloc (Nat.le_refl _) _).cell (p := ⟨B, 3, none⟩) (by show B < _; omega) |>.trans (hbx.cell 3)
  have hxB : X < B := by have := hX.lt; omega
  obtain ⟨TX, hTX⟩ : ∃ x, bs b = x := ⟨_, rfl⟩
  have HTX2 : Hid (TX.size ≤ 10000000) := Lib.hid (by rw [← hTX, bs_size]; omega)
  have HTXE := Lib.hid hTX
  have HBS := Lib.hid hbS
  have HNB := Lib.hid hnb
  have HQ7 := Lib.hid hq7
  have HSM := Lib.hid hS
  have HM := Lib.hid M
  have HX := Lib.hid hX
  have HBX := Lib.hid hbx
  have HB1 := Lib.hid hb1
  have HT := Lib.hid hT
  have HR1 := Lib.hid hrb1
  clear hok hrb M hX hbx hb1 hT hTX hbS hq7 hS
  go_enter Tryz.func9, Tryz.ntmps9
  go_upto_region 9 with (first
    | (at_builtin; refine appIn rfl _ _ rfl W1 b nb bc (B + 1) bA hz1 hnb hnil rfl rfl hrb1 hbl ?_; intro v W3 hv hb3
       have hz3 := hb3.size
       obtain ⟨T3, hT3⟩ : ∃ T3 : Nat → Prop, (fun x => T x ∨ (W.heap.size ≤ x ∧ x < W3.heap.size)) = T3 := ⟨_, rfl⟩
       have hbw3 : Below W.heap.size W W3 := HB1.out.trans (hb3.mono HB1.out.size)
       have hTX : T3 X := by rw [← hT3]; exact .inl HT.out
       have hTB : T3 B := by rw [← hT3]; exact .inr ⟨by omega, by omega⟩
       have HLE : Hid (∀ x, T x → T3 x) := Lib.hid (fun x hx => by rw [← hT3]; exact .inl hx)
       have ho3 : OwnT S T3 w0 D q v nb W3 := by
         have h := HM.out.new hbw3
         rw [hT3] at h
         refine ⟨h, _, (by have h := own_base (b2 := 0) hv (fun _ _ => Nat.zero_le _); rw [hnb] at h; exact h), AllU8.cells b, fun x hx => ?_⟩
         have := World.ownsRow.lt hv x hx
         rw [← hT3]
         exact .inr ⟨by omega, by omega⟩
       have hvX : v.ownBlock ≠ some X := fun e => by have := World.ownsRow.lt hv X e; omega
       have hc : ∀ V, Off (fun x => ¬ (S x ∨ T3 x)) W3 V → Blk B (.cells #[.int .i64 kd, .string p, .string t, .slice bA nb bc, .int .i64 n, .slice kA nk kc] 31 (0, 0)) V := fun V o => o.blk ((Off.of_below hb3).blk HBX.out (fun h => h)) (fun h => h (.inr hTB))
       have hx3 : ∀ V, Off (fun x => ¬ (S x ∨ T3 x)) W3 V → EmptyD X V := fun V o => ((HX.out.off (Off.of_below hbw3) (fun h => h)).off o (fun h => h (.inr hTX)))
       have hrv : ∀ V, Off (fun x => ¬ (S x ∨ T3 x)) W3 V → RB V bA b := fun V o hz => by
         obtain ⟨b', off, he, hbl', hcs⟩ := HR1.out hz
         have h2 := hb3.size
         have h3 := o.size
         exact ⟨b', off, he, by omega, fun j hj => o.cell ((Off.of_below hb3).cell (hcs j hj) (fun h => h)) (fun h => h (.inl (HBS.out (by rw [← HNB.out]; exact hz) b' (by rw [he]; rfl))))⟩
       have hrw : ∀ V V2, Off (fun x => ¬ (S x ∨ T3 x)) W3 V → V.grownBy V2 (some X) → RB V2 bA b := fun V V2 o g hz => RB.off (hrv V o) (Off.of_grown g) (fun b' hb' e => by
         cases e
         exact ho3.mine.2.2.2 X hTX (HBS.out (by rw [← HNB.out]; exact hz) X hb')) hz
       have hrun := OwnB.read hv
       obtain ⟨A, cv, rfl, hA⟩ := ho3.form
       have e0 : W3.cell? ⟨B, 0, none⟩ = some (.int .i64 kd) := (hc W3 (Off.refl _ _)).cell 0
       have ra3 : RB W3.drew A b := by
         obtain ⟨A', c', he, _, hR, _⟩ := hrun
         injection he with he1 he2 he3
         rw [he1]
         exact hR.below (below_drewN (Below.refl _ _) 1)
       have af3 : 0 < nb → ∀ x, aBlock A = some x → (fun x => S x ∨ T3 x) x ∨ W3.heap.size ≤ x := fun hz x hx => .inl (.inr (by
         obtain ⟨g, hg⟩ := hA hz
         rw [hg] at hx
         exact ho3.2.elim (fun zs hh => hh.2.2 x (by rw [hg]; exact hx))))
       have bd3 : Below W3.heap.size W3 W3.drew := below_drewN (Below.refl _ _) 1
       have md3 : MineS (fun x => S x ∨ T3 x) W3 D q W3.drew := ho3.side.drew
       have HO3 := Lib.hid ho3
       have HC := Lib.hid hc
       have HX3 := Lib.hid hx3
       have HTX := Lib.hid hTX
       have HA := Lib.hid hA
       have HRBV := Lib.hid hrv
       have HRBW := Lib.hid hrw
       have HBXn : B ≠ X := by omega
       clear hv hb3 hT3 hbw3 hTX hTB ho3 hc hx3 hA c3 hrb1 hrv hrw hrun))
  have hks : ∀ V, Off (fun x => ¬ (S x ∨ T3 x)) W3 V → V.cell? ⟨B, 1, none⟩ = some (.string p) ∧ V.cell? ⟨B, 3, none⟩ = some (.slice bA nb bc) ∧ (convert 28 9 (.slice bA nb bc)).run Tryz.prog V = .ok (.string TX) V := fun V ho => by
    have h := HC.out V ho
    exact ⟨h.cell 1, h.cell 3, (conv_slice bc HNB.out (HRBV.out V ho)).trans (by rw [HTXE.out])⟩
  have hks2 : ∀ V V2, Off (fun x => ¬ (S x ∨ T3 x)) W3 V → V.grownBy V2 (some X) → V2.cell? ⟨B, 1, none⟩ = some (.string p) ∧ V2.cell? ⟨B, 3, none⟩ = some (.slice bA nb bc) ∧ (convert 28 9 (.slice bA nb bc)).run Tryz.prog V2 = .ok (.string TX) V2 := fun V V2 ho g => by
    have h := (HC.out V ho).grown g (by intro e; exact HBXn (Option.some.inj e))
    exact ⟨h.cell 1, h.cell 3, (conv_slice bc HNB.out (HRBW.out V V2 ho g)).trans (by rw [HTXE.out])⟩
  have KS := Lib.hid hks
  have KS2 := Lib.hid hks2
  clear hks hks2
  go_region_held3 (fun V => V.cell? ⟨B, 1, none⟩ = some (.string p) ∧ V.cell? ⟨B, 3, none⟩ = some (.slice bA nb bc) ∧ (convert 28 9 (.slice bA nb bc)).run Tryz.prog V = .ok (.string TX) V)
    (first | exact KS.out _ (by assumption) | exact KS.out _ (Off.refl _ _).drew | exact KS2.out _ _ (by assumption) (by assumption))
    (first
      | (go_at_call 21; (with_reducible refine (side_append HO3.out.lt HO3.out.side bd3 HSM.out p hp b nb HNB.out A cv ra3 af3 hN HQ7.out).mono ?_); rintro e W4 ⟨rfl, M4⟩
         have o4 : Off (fun x => ¬ (S x ∨ T3 x)) W3 W4 := M4.off)
      | (go_at_call 26; (with_reducible refine (refappend_any (HX3.out W4 M4.off) p TX hp).mono ?_); rintro e W5 ⟨⟨z5, rfl⟩, g5⟩))
  go_wp2_with fail
  have HO5 := Lib.hid ((HO3.out.ret M4).own g5 HTX.out hvX)
  clear M4 g5 e0 o4 ra3 af3 bd3 md3 KS KS2
  go_loopw [119] (fun i wr => ∃ j : Nat, j ≤ nb ∧ i = .int .i64 (j : Int) ∧ Hid (OwnT S T3 w0 D q7 (.slice A nb cv) nb wr)) (fun i _ => nb - (RowKit.intOf i).toNat)
  case atStart => exact ⟨0, by omega, rfl, HO5⟩
  case round =>
    clear HO5
    obtain ⟨j, hj, rfl, HO⟩ := hrel
    by_cases hjn : j < nb
    · obtain ⟨g, rfl⟩ := HA.out (by omega)
      obtain ⟨⟨z, hz⟩, hfz⟩ := HO.out.at hjn
      go_wp2
      go_roundw
      case rel => exact ⟨j + 1, by omega, by go_num, Lib.hid (HO.out.turn j _)⟩
      case measure => simp [RowKit.intOf]; omega
    · obtain rfl : j = nb := by omega
      go_wp2
      go_ret
      exact ⟨⟨_, rfl⟩, HO.out.mine.less HLE.out⟩
set_option maxRecDepth 100000 in
set_option maxHeartbeats 4000000 in
theorem do_rename {S T : Nat → Prop} {w0 W : World} {D X N : Nat} {q : Q} (M : MineT S T w0 D q W) (hX : EmptyD X W) (hT : T X) (o : OpR) (hok : OpOk W o) (hbl : o.b.length ≤ 10000000) (hk : kindQ o = 2) (hS : Small N q) (hN : N + 3 + o.b.length ≤ 1048576) (hp : o.path.size ≤ 281474976710656) (ht : o.tgt.size ≤ 281474976710656) (hbS : 0 < o.b.length → ∀ x, aBlock o.bA = some x → S x) :
    Calls Tryz.prog 9 #[.pointer (some ⟨D, 0, none⟩), .pointer (some ⟨X, 0, none⟩), opAgg o] W fun e w' => (∃ b, e = .returned (.bool b)) ∧ MineT S T w0 D (tryQ q o).2 w' := by
  have hkq : (IntKind.u64.wrap o.kind).tmod 8 = 2 := hk
  obtain ⟨e7, q7, hq7⟩ : ∃ e q', tryQ q o = (e, q') := ⟨_, _, rfl⟩
  rw [hq7]
  unfold tryQ at hq7
  rw [hk] at hq7
  simp only [reduceIte, show ((2 : Int) = 0) = False by decide, show ((2 : Int) = 1) = False by decide] at hq7
  obtain ⟨kd, p, t, bA, bc, b, n, kA, kc, ks⟩ := o
  have hrb := hok.rb
  have hnil := hok.nilb
  unfold opAgg
  dsimp only at *
  obtain ⟨nb, hnb⟩ : ∃ x, b.length = x := ⟨_, rfl⟩
  rw [hnb] at hbl hN hbS ⊢
  have hN2 : N ≤ 1048576 := by omega
  obtain ⟨nk, hnk⟩ : ∃ x, ks.length = x := ⟨_, rfl⟩
  rw [hnk]
  obtain ⟨B, hB⟩ : ∃ B, W.heap.size = B := ⟨_, rfl⟩
  obtain ⟨W1, hW1⟩ : ∃ V, W.alloc (.cells #[.int .i64 kd, .string p, .string t, .slice bA nb bc, .int .i64 n, .slice kA nk kc] 31) = V := ⟨_, rfl⟩
  have hbx := Blk.new (.cells #[.int .i64 kd, .string p, .string t, .slice bA nb bc, .int .i64 n, .slice kA nk kc] 31 (0, 0)) W
  have hb1 : Below W.heap.size W W1 := by rw [← hW1]; exact (Below.refl _ _).alloc (Nat.le_refl _) _
  have hz1 : W1.heap.size = B + 1 := by rw [← hW1, ← hB]; simp
  rw [hW1, hB] at hbx
  have hrb1 : RB W1 bA b := hrb.below hb1
  have c3 : (W1.alloc (.cells #[] 5)).cell? ⟨B, 3, none⟩ = some (.slice bA nb bc) := ((Below.refl W1.heap.size W1).alloc (Nat.le_refl _) _).cell (p := ⟨B, 3, none⟩) (by show B < _; omega) |>.trans (hbx.cell 3)
  have hxB : X < B := by have := hX.lt; omega
  obtain ⟨TX, hTX⟩ : ∃ x, bs b = x := ⟨_, rfl⟩
  have HTX2 : Hid (TX.size ≤ 10000000) := Lib.hid (by rw [← hTX, bs_size]; omega)
  have HTXE := Lib.hid hTX
  have HBS := Lib.hid hbS
  have HNB := Lib.hid hnb
  have HQ7 := Lib.hid hq7
  have HSM := Lib.hid hS
  have HM := Lib.hid M
  have HX := Lib.hid hX
  have HBX := Lib.hid hbx
  have HB1 := Lib.hid hb1
  have HT := Lib.hid hT
  have HR1 := Lib.hid hrb1
  clear hok hrb M hX hbx hb1 hT hTX hbS hq7 hS
  go_enter Tryz.func9, Tryz.ntmps9
  go_upto_region 11 with (first
    | (at_builtin; refine appIn rfl _ _ rfl W1 b nb bc (B + 1) bA hz1 hnb hnil rfl rfl hrb1 hbl ?_; intro v W3 hv hb3
       have hz3 := hb3.size
       obtain ⟨T3, hT3⟩ : ∃ T3 : Nat → Prop, (fun x => T x ∨ (W.heap.size ≤ x ∧ x < W3.heap.size)) = T3 := ⟨_, rfl⟩
       have hbw3 : Below W.heap.size W W3 := HB1.out.trans (hb3.mono HB1.out.size)
       have hTX : T3 X := by rw [← hT3]; exact .inl HT.out
       have hTB : T3 B := by rw [← hT3]; exact .inr ⟨by omega, by omega⟩
       have HLE : Hid (∀ x, T x → T3 x) := Lib.hid (fun x hx => by rw [← hT3]; exact .inl hx)
       have ho3 : OwnT S T3 w0 D q v nb W3 := by
         have h := HM.out.new hbw3
         rw [hT3] at h
         refine ⟨h, _, (by have h := own_base (b2 := 0) hv (fun _ _ => Nat.zero_le _); rw [hnb] at h; exact h), AllU8.cells b, fun x hx => ?_⟩
         have := World.ownsRow.lt hv x hx
         rw [← hT3]
         exact .inr ⟨by omega, by omega⟩
       have hvX : v.ownBlock ≠ some X := fun e => by have := World.ownsRow.lt hv X e; omega
       have hc : ∀ V, Off (fun x => ¬ (S x ∨ T3 x)) W3 V → Blk B (.cells #[.int .i64 kd, .string p, .string t, .slice bA nb bc, .int .i64 n, .slice kA nk kc] 31 (0, 0)) V := fun V o => o.blk ((Off.of_below hb3).blk HBX.out (fun h => h)) (fun h => h (.inr hTB))
       have hx3 : ∀ V, Off (fun x => ¬ (S x ∨ T3 x)) W3 V → EmptyD X V := fun V o => ((HX.out.off (Off.of_below hbw3) (fun h => h)).off o (fun h => h (.inr hTX)))
       have hrv : ∀ V, Off (fun x => ¬ (S x ∨ T3 x)) W3 V → RB V bA b := fun V o hz => by
         obtain ⟨b', off, he, hbl', hcs⟩ := HR1.out hz
         have h2 := hb3.size
         have h3 := o.size
         exact ⟨b', off, he, by omega, fun j hj => o.cell ((Off.of_below hb3).cell (hcs j hj) (fun h => h)) (fun h => h (.inl (HBS.out (by rw [← HNB.out]; exact hz) b' (by rw [he]; rfl))))⟩
       have hrw : ∀ V V2, Off (fun x => ¬ (S x ∨ T3 x)) W3 V → V.grownBy V2 (some X) → RB V2 bA b := fun V V2 o g hz => RB.off (hrv V o) (Off.of_grown g) (fun b' hb' e => by
         cases e
         exact ho3.mine.2.2.2 X hTX (HBS.out (by rw [← HNB.out]; exact hz) X hb')) hz
       have hrun := OwnB.read hv
       obtain ⟨A, cv, rfl, hA⟩ := ho3.form
       have e0 : W3.cell? ⟨B, 0, none⟩ = some (.int .i64 kd) := (hc W3 (Off.refl _ _)).cell 0
       have ra3 : RB W3.drew A b := by
         obtain ⟨A', c', he, _, hR, _⟩ := hrun
         injection he with he1 he2 he3
         rw [he1]
         exact hR.below (below_drewN (Below.refl _ _) 1)
       have af3 : 0 < nb → ∀ x, aBlock A = some x → (fun x => S x ∨ T3 x) x ∨ W3.heap.size ≤ x := fun hz x hx => .inl (.inr (by
         obtain ⟨g, hg⟩ := hA hz
         rw [hg] at hx
         exact ho3.2.elim (fun zs hh => hh.2.2 x (by rw [hg]; exact hx))))
       have bd3 : Below W3.heap.size W3 W3.drew := below_drewN (Below.refl _ _) 1
       have md3 : MineS (fun x => S x ∨ T3 x) W3 D q W3.drew := ho3.side.drew
       have HO3 := Lib.hid ho3
       have HC := Lib.hid hc
       have HX3 := Lib.hid hx3
       have HTX := Lib.hid hTX
       have HA := Lib.hid hA
       have HRBV := Lib.hid hrv
       have HRBW := Lib.hid hrw
       have HBXn : B ≠ X := by omega
       clear hv hb3 hT3 hbw3 hTX hTB ho3 hc hx3 hA c3 hrb1 hrv hrw hrun))
  have hks : ∀ V, Off (fun x => ¬ (S x ∨ T3 x)) W3 V → V.cell? ⟨B, 1, none⟩ = some (.string p) ∧ V.cell? ⟨B, 2, none⟩ = some (.string t) ∧ True := fun V ho => by
    have h := HC.out V ho
    exact ⟨h.cell 1, h.cell 2, trivial⟩
  have hks2 : ∀ V V2, Off (fun x => ¬ (S x ∨ T3 x)) W3 V → V.grownBy V2 (some X) → V2.cell? ⟨B, 1, none⟩ = some (.string p) ∧ V2.cell? ⟨B, 2, none⟩ = some (.string t) ∧ True := fun V V2 ho g => by
    have h := (HC.out V ho).grown g (by intro e; exact HBXn (Option.some.inj e))
    exact ⟨h.cell 1, h.cell 2, trivial⟩
  have KS := Lib.hid hks
  have KS2 := Lib.hid hks2
  clear hks hks2
  go_region_held3 (fun V => V.cell? ⟨B, 1, none⟩ = some (.string p) ∧ V.cell? ⟨B, 2, none⟩ = some (.string t) ∧ True)
    (first | exact KS.out _ (by assumption) | exact KS.out _ (Off.refl _ _).drew | exact KS2.out _ _ (by assumption) (by assumption))
    (first
      | (go_at_call 27; (with_reducible refine (side_rename HO3.out.lt md3 HSM.out hN2 p t hp ht HQ7.out).mono ?_); rintro e W4 ⟨rfl, M4⟩
         have o4 : Off (fun x => ¬ (S x ∨ T3 x)) W3 W4 := M4.off)
      | (go_at_call 28; (with_reducible refine (refrename_any (HX3.out W4 M4.off) p t hp ht).mono ?_); rintro e W5 ⟨⟨z5, rfl⟩, g5⟩))
  go_wp2_with fail
  have HO5 := Lib.hid ((HO3.out.ret M4).own g5 HTX.out hvX)
  clear M4 g5 e0 o4 ra3 af3 bd3 md3 KS KS2
  go_loopw [119] (fun i wr => ∃ j : Nat, j ≤ nb ∧ i = .int .i64 (j : Int) ∧ Hid (OwnT S T3 w0 D q7 (.slice A nb cv) nb wr)) (fun i _ => nb - (RowKit.intOf i).toNat)
  case atStart => exact ⟨0, by omega, rfl, HO5⟩
  case round =>
    clear HO5
    obtain ⟨j, hj, rfl, HO⟩ := hrel
    by_cases hjn : j < nb
    · obtain ⟨g, rfl⟩ := HA.out (by omega)
      obtain ⟨⟨z, hz⟩, hfz⟩ := HO.out.at hjn
      go_wp2
      go_roundw
      case rel => exact ⟨j + 1, by omega, by go_num, Lib.hid (HO.out.turn j _)⟩
      case measure => simp [RowKit.intOf]; omega
    · obtain rfl : j = nb := by omega
      go_wp2
      go_ret
      exact ⟨⟨_, rfl⟩, HO.out.mine.less HLE.out⟩
set_option maxRecDepth 100000 in
set_option maxHeartbeats 4000000 in
theorem do_remove {S T : Nat → Prop} {w0 W : World} {D X N : Nat} {q : Q} (M : MineT S T w0 D q W) (hX : EmptyD X W) (hT : T X) (o : OpR) (hok : OpOk W o) (hbl : o.b.length ≤ 10000000) (hk : kindQ o = 3) (hS : Small N q) (hN : N + 3 + o.b.length ≤ 1048576) (hp : o.path.size ≤ 281474976710656) (ht : o.tgt.size ≤ 281474976710656) (hbS : 0 < o.b.length → ∀ x, aBlock o.bA = some x → S x) :
    Calls Tryz.prog 9 #[.pointer (some ⟨D, 0, none⟩), .pointer (some ⟨X, 0, none⟩), opAgg o] W fun e w' => (∃ b, e = .returned (.bool b)) ∧ MineT S T w0 D (tryQ q o).2 w' := by
  have hkq : (IntKind.u64.wrap o.kind).tmod 8 = 3 := hk
  obtain ⟨e7, q7, hq7⟩ : ∃ e q', tryQ q o = (e, q') := ⟨_, _, rfl⟩
  rw [hq7]
  unfold tryQ at hq7
  rw [hk] at hq7
  simp only [reduceIte, show ((3 : Int) = 0) = False by decide, show ((3 : Int) = 1) = False by decide, show ((3 : Int) = 2) = False by decide] at hq7
  obtain ⟨kd, p, t, bA, bc, b, n, kA, kc, ks⟩ := o
  have hrb := hok.rb
  have hnil := hok.nilb
  unfold opAgg
  dsimp only at *
  obtain ⟨nb, hnb⟩ : ∃ x, b.length = x := ⟨_, rfl⟩
  rw [hnb] at hbl hN hbS ⊢
  have hN2 : N ≤ 1048576 := by omega
  obtain ⟨nk, hnk⟩ : ∃ x, ks.length = x := ⟨_, rfl⟩
  rw [hnk]
  obtain ⟨B, hB⟩ : ∃ B, W.heap.size = B := ⟨_, rfl⟩
  obtain ⟨W1, hW1⟩ : ∃ V, W.alloc (.cells #[.int .i64 kd, .string p, .string t, .slice bA nb bc, .int .i64 n, .slice kA nk kc] 31) = V := ⟨_, rfl⟩
  have hbx := Blk.new (.cells #[.int .i64 kd, .string p, .string t, .slice bA nb bc, .int .i64 n, .slice kA nk kc] 31 (0, 0)) W
  have hb1 : Below W.heap.size W W1 := by rw [← hW1]; exact (Below.refl _ _).alloc (Nat.le_refl _) _
  have hz1 : W1.heap.size = B + 1 := by rw [← hW1, ← hB]; simp
  rw [hW1, hB] at hbx
  have hrb1 : RB W1 bA b := hrb.below hb1
  have c3 : (W1.alloc (.cells #[] 5)).cell? ⟨B, 3, none⟩ = some (.slice bA nb bc) := ((Below.refl W1.heap.size W1).alloc (Nat.le_refl _) _).cell (p := ⟨B, 3, none⟩) (by show B < _; omega) |>.trans (hbx.cell 3)
  have hxB : X < B := by have := hX.lt; omega
  obtain ⟨TX, hTX⟩ : ∃ x, bs b = x := ⟨_, rfl⟩
  have HTX2 : Hid (TX.size ≤ 10000000) := Lib.hid (by rw [← hTX, bs_size]; omega)
  have HTXE := Lib.hid hTX
  have HBS := Lib.hid hbS
  have HNB := Lib.hid hnb
  have HQ7 := Lib.hid hq7
  have HSM := Lib.hid hS
  have HM := Lib.hid M
  have HX := Lib.hid hX
  have HBX := Lib.hid hbx
  have HB1 := Lib.hid hb1
  have HT := Lib.hid hT
  have HR1 := Lib.hid hrb1
  clear hok hrb M hX hbx hb1 hT hTX hbS hq7 hS
  go_enter Tryz.func9, Tryz.ntmps9
  go_upto_region 13 with (first
    | (at_builtin; refine appIn rfl _ _ rfl W1 b nb bc (B + 1) bA hz1 hnb hnil rfl rfl hrb1 hbl ?_; intro v W3 hv hb3
       have hz3 := hb3.size
       obtain ⟨T3, hT3⟩ : ∃ T3 : Nat → Prop, (fun x => T x ∨ (W.heap.size ≤ x ∧ x < W3.heap.size)) = T3 := ⟨_, rfl⟩
       have hbw3 : Below W.heap.size W W3 := HB1.out.trans (hb3.mono HB1.out.size)
       have hTX : T3 X := by rw [← hT3]; exact .inl HT.out
       have hTB : T3 B := by rw [← hT3]; exact .inr ⟨by omega, by omega⟩
       have HLE : Hid (∀ x, T x → T3 x) := Lib.hid (fun x hx => by rw [← hT3]; exact .inl hx)
       have ho3 : OwnT S T3 w0 D q v nb W3 := by
         have h := HM.out.new hbw3
         rw [hT3] at h
         refine ⟨h, _, (by have h := own_base (b2 := 0) hv (fun _ _ => Nat.zero_le _); rw [hnb] at h; exact h), AllU8.cells b, fun x hx => ?_⟩
         have := World.ownsRow.lt hv x hx
         rw [← hT3]
         exact .inr ⟨by omega, by omega⟩
       have hvX : v.ownBlock ≠ some X := fun e => by have := World.ownsRow.lt hv X e; omega
       have hc : ∀ V, Off (fun x => ¬ (S x ∨ T3 x)) W3 V → Blk B (.cells #[.int .i64 kd, .string p, .string t, .slice bA nb bc, .int .i64 n, .slice kA nk kc] 31 (0, 0)) V := fun V o => o.blk ((Off.of_below hb3).blk HBX.out (fun h => h)) (fun h => h (.inr hTB))
       have hx3 : ∀ V, Off (fun x => ¬ (S x ∨ T3 x)) W3 V → EmptyD X V := fun V o => ((HX.out.off (Off.of_below hbw3) (fun h => h)).off o (fun h => h (.inr hTX)))
       have hrv : ∀ V, Off (fun x => ¬ (S x ∨ T3 x)) W3 V → RB V bA b := fun V o hz => by
         obtain ⟨b', off, he, hbl', hcs⟩ := HR1.out hz
         have h2 := hb3.size
         have h3 := o.size
         exact ⟨b', off, he, by omega, fun j hj => o.cell ((Off.of_below hb3).cell (hcs j hj) (fun h => h)) (fun h => h (.inl (HBS.out (by rw [← HNB.out]; exact hz) b' (by rw [he]; rfl))))⟩
       have hrw : ∀ V V2, Off (fun x => ¬ (S x ∨ T3 x)) W3 V → V.grownBy V2 (some X) → RB V2 bA b := fun V V2 o g hz => RB.off (hrv V o) (Off.of_grown g) (fun b' hb' e => by
         cases e
         exact ho3.mine.2.2.2 X hTX (HBS.out (by rw [← HNB.out]; exact hz) X hb')) hz
       have hrun := OwnB.read hv
       obtain ⟨A, cv, rfl, hA⟩ := ho3.form
       have e0 : W3.cell? ⟨B, 0, none⟩ = some (.int .i64 kd) := (hc W3 (Off.refl _ _)).cell 0
       have ra3 : RB W3.drew A b := by
         obtain ⟨A', c', he, _, hR, _⟩ := hrun
         injection he with he1 he2 he3
         rw [he1]
         exact hR.below (below_drewN (Below.refl _ _) 1)
       have af3 : 0 < nb → ∀ x, aBlock A = some x → (fun x => S x ∨ T3 x) x ∨ W3.heap.size ≤ x := fun hz x hx => .inl (.inr (by
         obtain ⟨g, hg⟩ := hA hz
         rw [hg] at hx
         exact ho3.2.elim (fun zs hh => hh.2.2 x (by rw [hg]; exact hx))))
       have bd3 : Below W3.heap.size W3 W3.drew := below_drewN (Below.refl _ _) 1
       have md3 : MineS (fun x => S x ∨ T3 x) W3 D q W3.drew := ho3.side.drew
       have HO3 := Lib.hid ho3
       have HC := Lib.hid hc
       have HX3 := Lib.hid hx3
       have HTX := Lib.hid hTX
       have HA := Lib.hid hA
       have HRBV := Lib.hid hrv
       have HRBW := Lib.hid hrw
       have HBXn : B ≠ X := by omega
       clear hv hb3 hT3 hbw3 hTX hTB ho3 hc hx3 hA c3 hrb1 hrv hrw hrun))
  have hks : ∀ V, Off (fun x => ¬ (S x ∨ T3 x)) W3 V → V.cell? ⟨B, 1, none⟩ = some (.string p) ∧ True := fun V ho => by
    have h := HC.out V ho
    exact ⟨h.cell 1, trivial⟩
  have hks2 : ∀ V V2, Off (fun x => ¬ (S x ∨ T3 x)) W3 V → V.grownBy V2 (some X) → V2.cell? ⟨B, 1, none⟩ = some (.string p) ∧ True := fun V V2 ho g => by
    have h := (HC.out V ho).grown g (by intro e; exact HBXn (Option.some.inj e))
    exact ⟨h.cell 1, trivial⟩
  have KS := Lib.hid hks
  have KS2 := Lib.hid hks2
  clear hks hks2
  go_region_held3 (fun V => V.cell? ⟨B, 1, none⟩ = some (.string p) ∧ True)
    (first | exact KS.out _ (by assumption) | exact KS.out _ (Off.refl _ _).drew | exact KS2.out _ _ (by assumption) (by assumption))
    (first
      | (go_at_call 29; (with_reducible refine (side_remove HO3.out.lt md3 HSM.out hN2 p hp HQ7.out).mono ?_); rintro e W4 ⟨rfl, M4⟩
         have o4 : Off (fun x => ¬ (S x ∨ T3 x)) W3 W4 := M4.off)
      | (go_at_call 30; (with_reducible refine (refremove_any (HX3.out W4 M4.off) p hp).mono ?_); rintro e W5 ⟨⟨z5, rfl⟩, g5⟩))
  go_wp2_with fail
  have HO5 := Lib.hid ((HO3.out.ret M4).own g5 HTX.out hvX)
  clear M4 g5 e0 o4 ra3 af3 bd3 md3 KS KS2
  go_loopw [119] (fun i wr => ∃ j : Nat, j ≤ nb ∧ i = .int .i64 (j : Int) ∧ Hid (OwnT S T3 w0 D q7 (.slice A nb cv) nb wr)) (fun i _ => nb - (RowKit.intOf i).toNat)
  case atStart => exact ⟨0, by omega, rfl, HO5⟩
  case round =>
    clear HO5
    obtain ⟨j, hj, rfl, HO⟩ := hrel
    by_cases hjn : j < nb
    · obtain ⟨g, rfl⟩ := HA.out (by omega)
      obtain ⟨⟨z, hz⟩, hfz⟩ := HO.out.at hjn
      go_wp2
      go_roundw
      case rel => exact ⟨j + 1, by omega, by go_num, Lib.hid (HO.out.turn j _)⟩
      case measure => simp [RowKit.intOf]; omega
    · obtain rfl : j = nb := by omega
      go_wp2
      go_ret
      exact ⟨⟨_, rfl⟩, HO.out.mine.less HLE.out⟩
set_option maxRecDepth 100000 in
set_option maxHeartbeats 4000000 in
theorem do_sync {S T : Nat → Prop} {w0 W : World} {D X N : Nat} {q : Q} (M : MineT S T w0 D q W) (hX : EmptyD X W) (hT : T X) (o : OpR) (hok : OpOk W o) (hbl : o.b.length ≤ 10000000) (hk : kindQ o = 4) (hS : Small N q) (hN : N + 3 + o.b.length ≤ 1048576) (hp : o.path.size ≤ 281474976710656) (ht : o.tgt.size ≤ 281474976710656) (hbS : 0 < o.b.length → ∀ x, aBlock o.bA = some x → S x) :
    Calls Tryz.prog 9 #[.pointer (some ⟨D, 0, none⟩), .pointer (some ⟨X, 0, none⟩), opAgg o] W fun e w' => (∃ b, e = .returned (.bool b)) ∧ MineT S T w0 D (tryQ q o).2 w' := by
  have hkq : (IntKind.u64.wrap o.kind).tmod 8 = 4 := hk
  obtain ⟨e7, q7, hq7⟩ : ∃ e q', tryQ q o = (e, q') := ⟨_, _, rfl⟩
  rw [hq7]
  unfold tryQ at hq7
  rw [hk] at hq7
  simp only [reduceIte, show ((4 : Int) = 0) = False by decide, show ((4 : Int) = 1) = False by decide, show ((4 : Int) = 2) = False by decide, show ((4 : Int) = 3) = False by decide] at hq7
  obtain ⟨kd, p, t, bA, bc, b, n, kA, kc, ks⟩ := o
  have hrb := hok.rb
  have hnil := hok.nilb
  unfold opAgg
  dsimp only at *
  obtain ⟨nb, hnb⟩ : ∃ x, b.length = x := ⟨_, rfl⟩
  rw [hnb] at hbl hN hbS ⊢
  have hN2 : N ≤ 1048576 := by omega
  obtain ⟨nk, hnk⟩ : ∃ x, ks.length = x := ⟨_, rfl⟩
  rw [hnk]
  obtain ⟨B, hB⟩ : ∃ B, W.heap.size = B := ⟨_, rfl⟩
  obtain ⟨W1, hW1⟩ : ∃ V, W.alloc (.cells #[.int .i64 kd, .string p, .string t, .slice bA nb bc, .int .i64 n, .slice kA nk kc] 31) = V := ⟨_, rfl⟩
  have hbx := Blk.new (.cells #[.int .i64 kd, .string p, .string t, .slice bA nb bc, .int .i64 n, .slice kA nk kc] 31 (0, 0)) W
  have hb1 : Below W.heap.size W W1 := by rw [← hW1]; exact (Below.refl _ _).alloc (Nat.le_refl _) _
  have hz1 : W1.heap.size = B + 1 := by rw [← hW1, ← hB]; simp
  rw [hW1, hB] at hbx
  have hrb1 : RB W1 bA b := hrb.below hb1
  have c3 : (W1.alloc (.cells #[] 5)).cell? ⟨B, 3, none⟩ = some (.slice bA nb bc) := ((Below.refl W1.heap.size W1).alloc (Nat.le_refl _) _).cell (p := ⟨B, 3, none⟩) (by show B < _; omega) |>.trans (hbx.cell 3)
  have hxB : X < B := by have := hX.lt; omega
  obtain ⟨TX, hTX⟩ : ∃ x, bs b = x := ⟨_, rfl⟩
  have HTX2 : Hid (TX.size ≤ 10000000) := Lib.hid (by rw [← hTX, bs_size]; omega)
  have HTXE := Lib.hid hTX
  have HBS := Lib.hid hbS
  have HNB := Lib.hid hnb
  have HQ7 := Lib.hid hq7
  have HSM := Lib.hid hS
  have HM := Lib.hid M
  have HX := Lib.hid hX
  have HBX := Lib.hid hbx
  have HB1 := Lib.hid hb1
  have HT := Lib.hid hT
  have HR1 := Lib.hid hrb1
  clear hok hrb M hX hbx hb1 hT hTX hbS hq7 hS
  go_enter Tryz.func9, Tryz.ntmps9
  go_upto_region 15 with (first
    | (at_builtin; refine appIn rfl _ _ rfl W1 b nb bc (B + 1) bA hz1 hnb hnil rfl rfl hrb1 hbl ?_; intro v W3 hv hb3
       have hz3 := hb3.size
       obtain ⟨T3, hT3⟩ : ∃ T3 : Nat → Prop, (fun x => T x ∨ (W.heap.size ≤ x ∧ x < W3.heap.size)) = T3 := ⟨_, rfl⟩
       have hbw3 : Below W.heap.size W W3 := HB1.out.trans (hb3.mono HB1.out.size)
       have hTX : T3 X := by rw [← hT3]; exact .inl HT.out
       have hTB : T3 B := by rw [← hT3]; exact .inr ⟨by omega, by omega⟩
       have HLE : Hid (∀ x, T x → T3 x) := Lib.hid (fun x hx => by rw [← hT3]; exact .inl hx)
       have ho3 : OwnT S T3 w0 D q v nb W3 := by
         have h := HM.out.new hbw3
         rw [hT3] at h
         refine ⟨h, _, (by have h := own_base (b2 := 0) hv (fun _ _ => Nat.zero_le _); rw [hnb] at h; exact h), AllU8.cells b, fun x hx => ?_⟩
         have := World.ownsRow.lt hv x hx
         rw [← hT3]
         exact .inr ⟨by omega, by omega⟩
       have hvX : v.ownBlock ≠ some X := fun e => by have := World.ownsRow.lt hv X e; omega
       have hc : ∀ V, Off (fun x => ¬ (S x ∨ T3 x)) W3 V → Blk B (.cells #[.int .i64 kd, .string p, .string t, .slice bA nb bc, .int .i64 n, .slice kA nk kc] 31 (0, 0)) V := fun V o => o.blk ((Off.of_below hb3).blk HBX.out (fun h => h)) (fun h => h (.inr hTB))
       have hx3 : ∀ V, Off (fun x => ¬ (S x ∨ T3 x)) W3 V → EmptyD X V := fun V o => ((HX.out.off (Off.of_below hbw3) (fun h => h)).off o (fun h => h (.inr hTX)))
       have hrv : ∀ V, Off (fun x => ¬ (S x ∨ T3 x)) W3 V → RB V bA b := fun V o hz => by
         obtain ⟨b', off, he, hbl', hcs⟩ := HR1.out hz
         have h2 := hb3.size
         have h3 := o.size
         exact ⟨b', off, he, by omega, fun j hj => o.cell ((Off.of_below hb3).cell (hcs j hj) (fun h => h)) (fun h => h (.inl (HBS.out (by rw [← HNB.out]; exact hz) b' (by rw [he]; rfl))))⟩
       have hrw : ∀ V V2, Off (fun x => ¬ (S x ∨ T3 x)) W3 V → V.grownBy V2 (some X) → RB V2 bA b := fun V V2 o g hz => RB.off (hrv V o) (Off.of_grown g) (fun b' hb' e => by
         cases e
         exact ho3.mine.2.2.2 X hTX (HBS.out (by rw [← HNB.out]; exact hz) X hb')) hz
       have hrun := OwnB.read hv
       obtain ⟨A, cv, rfl, hA⟩ := ho3.form
       have e0 : W3.cell? ⟨B, 0, none⟩ = some (.int .i64 kd) := (hc W3 (Off.refl _ _)).cell 0
       have ra3 : RB W3.drew A b := by
         obtain ⟨A', c', he, _, hR, _⟩ := hrun
         injection he with he1 he2 he3
         rw [he1]
         exact hR.below (below_drewN (Below.refl _ _) 1)
       have af3 : 0 < nb → ∀ x, aBlock A = some x → (fun x => S x ∨ T3 x) x ∨ W3.heap.size ≤ x := fun hz x hx => .inl (.inr (by
         obtain ⟨g, hg⟩ := hA hz
         rw [hg] at hx
         exact ho3.2.elim (fun zs hh => hh.2.2 x (by rw [hg]; exact hx))))
       have bd3 : Below W3.heap.size W3 W3.drew := below_drewN (Below.refl _ _) 1
       have md3 : MineS (fun x => S x ∨ T3 x) W3 D q W3.drew := ho3.side.drew
       have HO3 := Lib.hid ho3
       have HC := Lib.hid hc
       have HX3 := Lib.hid hx3
       have HTX := Lib.hid hTX
       have HA := Lib.hid hA
       have HRBV := Lib.hid hrv
       have HRBW := Lib.hid hrw
       have HBXn : B ≠ X := by omega
       clear hv hb3 hT3 hbw3 hTX hTB ho3 hc hx3 hA c3 hrb1 hrv hrw hrun))
  have hks : ∀ V, Off (fun x => ¬ (S x ∨ T3 x)) W3 V → V.cell? ⟨B, 1, none⟩ = some (.string p) ∧ True := fun V ho => by
    have h := HC.out V ho
    exact ⟨h.cell 1, trivial⟩
  have hks2 : ∀ V V2, Off (fun x => ¬ (S x ∨ T3 x)) W3 V → V.grownBy V2 (some X) → V2.cell? ⟨B, 1, none⟩ = some (.string p) ∧ True := fun V V2 ho g => by
    have h := (HC.out V ho).grown g (by intro e; exact HBXn (Option.some.inj e))
    exact ⟨h.cell 1, trivial⟩
  have KS := Lib.hid hks
  have KS2 := Lib.hid hks2
  clear hks hks2
  go_region_held3 (fun V => V.cell? ⟨B, 1, none⟩ = some (.string p) ∧ True)
    (first | exact KS.out _ (by assumption) | exact KS.out _ (Off.refl _ _).drew | exact KS2.out _ _ (by assumption) (by assumption))
    (first
      | (go_at_call 19; (with_reducible refine (side_sync HO3.out.lt md3 HSM.out hN2 p hp HQ7.out).mono ?_); rintro e W4 ⟨rfl, M4⟩
         have o4 : Off (fun x => ¬ (S x ∨ T3 x)) W3 W4 := M4.off)
      | (go_at_call 31; (with_reducible refine (refsync_any (HX3.out W4 M4.off) p hp).mono ?_); rintro e W5 ⟨⟨z5, rfl⟩, g5⟩))
  go_wp2_with fail
  have HO5 := Lib.hid ((HO3.out.ret M4).own g5 HTX.out hvX)
  clear M4 g5 e0 o4 ra3 af3 bd3 md3 KS KS2
  go_loopw [119] (fun i wr => ∃ j : Nat, j ≤ nb ∧ i = .int .i64 (j : Int) ∧ Hid (OwnT S T3 w0 D q7 (.slice A nb cv) nb wr)) (fun i _ => nb - (RowKit.intOf i).toNat)
  case atStart => exact ⟨0, by omega, rfl, HO5⟩
  case round =>
    clear HO5
    obtain ⟨j, hj, rfl, HO⟩ := hrel
    by_cases hjn : j < nb
    · obtain ⟨g, rfl⟩ := HA.out (by omega)
      obtain ⟨⟨z, hz⟩, hfz⟩ := HO.out.at hjn
      go_wp2
      go_roundw
      case rel => exact ⟨j + 1, by omega, by go_num, Lib.hid (HO.out.turn j _)⟩
      case measure => simp [RowKit.intOf]; omega
    · obtain rfl : j = nb := by omega
      go_wp2
      go_ret
      exact ⟨⟨_, rfl⟩, HO.out.mine.less HLE.out⟩
set_option maxRecDepth 100000 in
set_option maxHeartbeats 4000000 in
theorem do_syncDir {S T : Nat → Prop} {w0 W : World} {D X N : Nat} {q : Q} (M : MineT S T w0 D q W) (hX : EmptyD X W) (hT : T X) (o : OpR) (hok : OpOk W o) (hbl : o.b.length ≤ 10000000) (hk : kindQ o = 5) (hS : Small N q) (hN : N + 3 + o.b.length ≤ 1048576) (hp : o.path.size ≤ 281474976710656) (ht : o.tgt.size ≤ 281474976710656) (hbS : 0 < o.b.length → ∀ x, aBlock o.bA = some x → S x) :
    Calls Tryz.prog 9 #[.pointer (some ⟨D, 0, none⟩), .pointer (some ⟨X, 0, none⟩), opAgg o] W fun e w' => (∃ b, e = .returned (.bool b)) ∧ MineT S T w0 D (tryQ q o).2 w' := by
  have hkq : (IntKind.u64.wrap o.kind).tmod 8 = 5 := hk
  obtain ⟨e7, q7, hq7⟩ : ∃ e q', tryQ q o = (e, q') := ⟨_, _, rfl⟩
  rw [hq7]
  unfold tryQ at hq7
  rw [hk] at hq7
  simp only [reduceIte, show ((5 : Int) = 0) = False by decide, show ((5 : Int) = 1) = False by decide, show ((5 : Int) = 2) = False by decide, show ((5 : Int) = 3) = False by decide, show ((5 : Int) = 4) = False by decide] at hq7
  obtain ⟨kd, p, t, bA, bc, b, n, kA, kc, ks⟩ := o
  have hrb := hok.rb
  have hnil := hok.nilb
  unfold opAgg
  dsimp only at *
  obtain ⟨nb, hnb⟩ : ∃ x, b.length = x := ⟨_, rfl⟩
  rw [hnb] at hbl hN hbS ⊢
  have hN2 : N ≤ 1048576 := by omega
  obtain ⟨nk, hnk⟩ : ∃ x, ks.length = x := ⟨_, rfl⟩
  rw [hnk]
  obtain ⟨B, hB⟩ : ∃ B, W.heap.size = B := ⟨_, rfl⟩
  obtain ⟨W1, hW1⟩ : ∃ V, W.alloc (.cells #[.int .i64 kd, .string p, .string t, .slice bA nb bc, .int .i64 n, .slice kA nk kc] 31) = V := ⟨_, rfl⟩
  have hbx := Blk.new (.cells #[.int .i64 kd, .string p, .string t, .slice bA nb bc, .int .i64 n, .slice kA nk kc] 31 (0, 0)) W
  have hb1 : Below W.heap.size W W1 := by rw [← hW1]; exact (Below.refl _ _).alloc (Nat.le_refl _) _
  have hz1 : W1.heap.size = B + 1 := by rw [← hW1, ← hB]; simp
  rw [hW1, hB] at hbx
  have hrb1 : RB W1 bA b := hrb.below hb1
  have c3 : (W1.alloc (.cells #[] 5)).cell? ⟨B, 3, none⟩ = some (.slice bA nb bc) := ((Below.refl W1.heap.size W1).alloc (Nat.le_refl _) _).cell (p := ⟨B, 3, none⟩) (by show B < _; omega) |>.trans (hbx.cell 3)
  have hxB : X < B := by have := hX.lt; omega
  obtain ⟨TX, hTX⟩ : ∃ x, bs b = x := ⟨_, rfl⟩
  have HTX2 : Hid (TX.size ≤ 10000000) := Lib.hid (by rw [← hTX, bs_size]; omega)
  have HTXE := Lib.hid hTX
  have HBS := Lib.hid hbS
  have HNB := Lib.hid hnb
  have HQ7 := Lib.hid hq7
  have HSM := Lib.hid hS
  have HM := Lib.hid M
  have HX := Lib.hid hX
  have HBX := Lib.hid hbx
  have HB1 := Lib.hid hb1
  have HT := Lib.hid hT
  have HR1 := Lib.hid hrb1
  clear hok hrb M hX hbx hb1 hT hTX hbS hq7 hS
  go_enter Tryz.func9, Tryz.ntmps9
  go_upto_region 17 with (first
    | (at_builtin; refine appIn rfl _ _ rfl W1 b nb bc (B + 1) bA hz1 hnb hnil rfl rfl hrb1 hbl ?_; intro v W3 hv hb3
       have hz3 := hb3.size
       obtain ⟨T3, hT3⟩ : ∃ T3 : Nat → Prop, (fun x => T x ∨ (W.heap.size ≤ x ∧ x < W3.heap.size)) = T3 := ⟨_, rfl⟩
       have hbw3 : Below W.heap.size W W3 := HB1.out.trans (hb3.mono HB1.out.size)
       have hTX : T3 X := by rw [← hT3]; exact .inl HT.out
       have hTB : T3 B := by rw [← hT3]; exact .inr ⟨by omega, by omega⟩
       have HLE : Hid (∀ x, T x → T3 x) := Lib.hid (fun x hx => by rw [← hT3]; exact .inl hx)
       have ho3 : OwnT S T3 w0 D q v nb W3 := by
         have h := HM.out.new hbw3
         rw [hT3] at h
         refine ⟨h, _, (by have h := own_base (b2 := 0) hv (fun _ _ => Nat.zero_le _); rw [hnb] at h; exact h), AllU8.cells b, fun x hx => ?_⟩
         have := World.ownsRow.lt hv x hx
         rw [← hT3]
         exact .inr ⟨by omega, by omega⟩
       have hvX : v.ownBlock ≠ some X := fun e => by have := World.ownsRow.lt hv X e; omega
       have hc : ∀ V, Off (fun x => ¬ (S x ∨ T3 x)) W3 V → Blk B (.cells #[.int .i64 kd, .string p, .string t, .slice bA nb bc, .int .i64 n, .slice kA nk kc] 31 (0, 0)) V := fun V o => o.blk ((Off.of_below hb3).blk HBX.out (fun h => h)) (fun h => h (.inr hTB))
       have hx3 : ∀ V, Off (fun x => ¬ (S x ∨ T3 x)) W3 V → EmptyD X V := fun V o => ((HX.out.off (Off.of_below hbw3) (fun h => h)).off o (fun h => h (.inr hTX)))
       have hrv : ∀ V, Off (fun x => ¬ (S x ∨ T3 x)) W3 V → RB V bA b := fun V o hz => by
         obtain ⟨b', off, he, hbl', hcs⟩ := HR1.out hz
         have h2 := hb3.size
         have h3 := o.size
         exact ⟨b', off, he, by omega, fun j hj => o.cell ((Off.of_below hb3).cell (hcs j hj) (fun h => h)) (fun h => h (.inl (HBS.out (by rw [← HNB.out]; exact hz) b' (by rw [he]; rfl))))⟩
       have hrw : ∀ V V2, Off (fun x => ¬ (S x ∨ T3 x)) W3 V → V.grownBy V2 (some X) → RB V2 bA b := fun V V2 o g hz => RB.off (hrv V o) (Off.of_grown g) (fun b' hb' e => by
         cases e
         exact ho3.mine.2.2.2 X hTX (HBS.out (by rw [← HNB.out]; exact hz) X hb')) hz
       have hrun := OwnB.read hv
       obtain ⟨A, cv, rfl, hA⟩ := ho3.form
       have e0 : W3.cell? ⟨B, 0, none⟩ = some (.int .i64 kd) := (hc W3 (Off.refl _ _)).cell 0
       have ra3 : RB W3.drew A b := by
         obtain ⟨A', c', he, _, hR, _⟩ := hrun
         injection he with he1 he2 he3
         rw [he1]
         exact hR.below (below_drewN (Below.refl _ _) 1)
       have af3 : 0 < nb → ∀ x, aBlock A = some x → (fun x => S x ∨ T3 x) x ∨ W3.heap.size ≤ x := fun hz x hx => .inl (.inr (by
         obtain ⟨g, hg⟩ := hA hz
         rw [hg] at hx
         exact ho3.2.elim (fun zs hh => hh.2.2 x (by rw [hg]; exact hx))))
       have bd3 : Below W3.heap.size W3 W3.drew := below_drewN (Below.refl _ _) 1
       have md3 : MineS (fun x => S x ∨ T3 x) W3 D q W3.drew := ho3.side.drew
       have HO3 := Lib.hid ho3
       have HC := Lib.hid hc
       have HX3 := Lib.hid hx3
       have HTX := Lib.hid hTX
       have HA := Lib.hid hA
       have HRBV := Lib.hid hrv
       have HRBW := Lib.hid hrw
       have HBXn : B ≠ X := by omega
       clear hv hb3 hT3 hbw3 hTX hTB ho3 hc hx3 hA c3 hrb1 hrv hrw hrun))
  have hks : ∀ V, Off (fun x => ¬ (S x ∨ T3 x)) W3 V → V.cell? ⟨B, 1, none⟩ = some (.string p) ∧ True := fun V ho => by
    have h := HC.out V ho
    exact ⟨h.cell 1, trivial⟩
  have hks2 : ∀ V V2, Off (fun x => ¬ (S x ∨ T3 x)) W3 V → V.grownBy V2 (some X) → V2.cell? ⟨B, 1, none⟩ = some (.string p) ∧ True := fun V V2 ho g => by
    have h := (HC.out V ho).grown g (by intro e; exact HBXn (Option.some.inj e))
    exact ⟨h.cell 1, trivial⟩
  have KS := Lib.hid hks
  have KS2 := Lib.hid hks2
  clear hks hks2
  go_region_held3 (fun V => V.cell? ⟨B, 1, none⟩ = some (.string p) ∧ True)
    (first | exact KS.out _ (by assumption) | exact KS.out _ (Off.refl _ _).drew | exact KS2.out _ _ (by assumption) (by assumption))
    (first
      | (go_at_call 20; (with_reducible refine (side_syncDir HO3.out.lt md3 HSM.out hN2 p hp HQ7.out).mono ?_); rintro e W4 ⟨rfl, M4⟩
         have o4 : Off (fun x => ¬ (S x ∨ T3 x)) W3 W4 := M4.off)
      | (go_at_call 32; (with_reducible refine (refsyncDir_any (HX3.out W4 M4.off) p hp).mono ?_); rintro e W5 ⟨⟨z5, rfl⟩, g5⟩))
  go_wp2_with fail
  have HO5 := Lib.hid ((HO3.out.ret M4).own g5 HTX.out hvX)
  clear M4 g5 e0 o4 ra3 af3 bd3 md3 KS KS2
  go_loopw [119] (fun i wr => ∃ j : Nat, j ≤ nb ∧ i = .int .i64 (j : Int) ∧ Hid (OwnT S T3 w0 D q7 (.slice A nb cv) nb wr)) (fun i _ => nb - (RowKit.intOf i).toNat)
  case atStart => exact ⟨0, by omega, rfl, HO5⟩
  case round =>
    clear HO5
    obtain ⟨j, hj, rfl, HO⟩ := hrel
    by_cases hjn : j < nb
    · obtain ⟨g, rfl⟩ := HA.out (by omega)
      obtain ⟨⟨z, hz⟩, hfz⟩ := HO.out.at hjn
      go_wp2
      go_roundw
      case rel => exact ⟨j + 1, by omega, by go_num, Lib.hid (HO.out.turn j _)⟩
      case measure => simp [RowKit.intOf]; omega
    · obtain rfl : j = nb := by omega
      go_wp2
      go_ret
      exact ⟨⟨_, rfl⟩, HO.out.mine.less HLE.out⟩
end Go.Proofs.YtbodkjifpmencaaGreat
