/-
  The law's do of an act, beside a new disk of the document's without room. No conditions.
-/
import Derived.Test.YtbodkjifpmencaaGreatVRD
namespace Go.Proofs.YtbodkjifpmencaaGreat
open Go.RowKit
open Go.Lib

set_option maxRecDepth 100000 in
set_option maxHeartbeats 4000000 in
theorem do_fail {S T : Nat → Prop} {w0 W : World} {D X : Nat} {q : Q} (M : MineT S T w0 D q W) (hX : EmptyD X W) (hT : T X) (o : OpR) (hok : OpOk W o) (hbl : o.b.length ≤ 10000000) (hk : kindQ o = 6) :
    Calls Tryz.prog 9 #[.pointer (some ⟨D, 0, none⟩), .pointer (some ⟨X, 0, none⟩), opAgg o] W fun e w' => (∃ b, e = .returned (.bool b)) ∧ MineT S T w0 D (failQ q o.n (decide (0 < o.b.length))) w' := by
  have hkq : (IntKind.u64.wrap o.kind).tmod 8 = 6 := hk
  obtain ⟨kd, p, t, bA, bc, b, n, kA, kc, ks⟩ := o
  have hrb := hok.rb
  have hnil := hok.nilb
  unfold opAgg
  dsimp only at *
  obtain ⟨nb, hnb⟩ : ∃ x, b.length = x := ⟨_, rfl⟩
  rw [hnb] at hbl ⊢
  obtain ⟨once, hon⟩ : ∃ x, decide (0 < nb) = x := ⟨_, rfl⟩
  rw [hon]
  have hon2 : decide ((0 : Int) < (nb : Int)) = once := by rw [← hon]; simp
  obtain ⟨B, hB⟩ : ∃ B, W.heap.size = B := ⟨_, rfl⟩
  obtain ⟨W1, hW1⟩ : ∃ V, W.alloc (.cells #[.int .i64 kd, .string p, .string t, .slice bA nb bc, .int .i64 n, .slice kA ks.length kc] 31) = V := ⟨_, rfl⟩
  have hbx := Blk.new (.cells #[.int .i64 kd, .string p, .string t, .slice bA nb bc, .int .i64 n, .slice kA ks.length kc] 31 (0, 0)) W
  have hb1 : Below W.heap.size W W1 := by rw [← hW1]; exact (Below.refl _ _).alloc (Nat.le_refl _) _
  have hz1 : W1.heap.size = B + 1 := by rw [← hW1, ← hB]; simp
  rw [hW1, hB] at hbx
  have hrb1 : RB W1 bA b := hrb.below hb1
  have c3 : (W1.alloc (.cells #[] 5)).cell? ⟨B, 3, none⟩ = some (.slice bA nb bc) := ((Below.refl W1.heap.size W1).alloc (Nat.le_refl _) _).cell (p := ⟨B, 3, none⟩) (by show B < _; omega) |>.trans (hbx.cell 3)
  have hxB : X < B := by have := hX.lt; omega
  have HM := Lib.hid M
  have HX := Lib.hid hX
  have HBX := Lib.hid hbx
  have HB1 := Lib.hid hb1
  have HT := Lib.hid hT
  clear hok hrb M hX hbx hb1 hT
  go_enter Tryz.func9, Tryz.ntmps9
  go_wp2_with (first
    | (at_builtin; refine appIn rfl _ _ rfl W1 b nb bc (B + 1) bA hz1 hnb hnil rfl rfl hrb1 hbl ?_; intro v W3 hv hb3
       have hz3 := hb3.size
       obtain ⟨T3, hT3⟩ : ∃ T3 : Nat → Prop, (fun x => T x ∨ (W.heap.size ≤ x ∧ x < W3.heap.size)) = T3 := ⟨_, rfl⟩
       have hbw3 : Below W.heap.size W W3 := HB1.out.trans (hb3.mono HB1.out.size)
       have hTX : T3 X := by rw [← hT3]; exact .inl HT.out
       have hTB : T3 B := by rw [← hT3]; exact .inr ⟨by omega, by omega⟩
       have HLE : Hid (∀ x, T x → T3 x) := Lib.hid (fun x hx => by rw [← hT3]; exact .inl hx)
       have ho3 : OwnT S T3 w0 D q v nb W3 := by
         have h := HM.out.new hbw3
         rw [hT3] at h
         refine ⟨h, _, (by have h := own_base (b2 := 0) hv (fun _ _ => Nat.zero_le _); rw [hnb] at h; exact h), AllU8.cells b, fun x hx => ?_⟩
         have := World.ownsRow.lt hv x hx
         rw [← hT3]
         exact .inr ⟨by omega, by omega⟩
       have hvX : v.ownBlock ≠ some X := fun e => by have := World.ownsRow.lt hv X e; omega
       have hc : ∀ V, Off (fun x => ¬ (S x ∨ T3 x)) W3 V → Blk B (.cells #[.int .i64 kd, .string p, .string t, .slice bA nb bc, .int .i64 n, .slice kA ks.length kc] 31 (0, 0)) V := fun V o => o.blk ((Off.of_below hb3).blk HBX.out (fun h => h)) (fun h => h (.inr hTB))
       have hx3 : ∀ V, Off (fun x => ¬ (S x ∨ T3 x)) W3 V → EmptyD X V := fun V o => ((HX.out.off (Off.of_below hbw3) (fun h => h)).off o (fun h => h (.inr hTX)))
       obtain ⟨A, cv, rfl, hA⟩ := ho3.form
       have e0 : W3.cell? ⟨B, 0, none⟩ = some (.int .i64 kd) := (hc W3 (Off.refl _ _)).cell 0
       have e3 : W3.cell? ⟨B, 3, none⟩ = some (.slice bA nb bc) := (hc W3 (Off.refl _ _)).cell 3
       have e4 : W3.cell? ⟨B, 4, none⟩ = some (.int .i64 n) := (hc W3 (Off.refl _ _)).cell 4
       have HO3 := Lib.hid ho3
       have HC := Lib.hid hc
       have HX3 := Lib.hid hx3
       have HTX := Lib.hid hTX
       have HA := Lib.hid hA
       clear hv hb3 hT3 hbw3 hTX hTB ho3 hc hx3 hA c3 hrb1)
    | (go_at_call 24; (with_reducible refine (side_fail HO3.out.lt HO3.out.side n once).mono ?_); rintro e W4 ⟨rfl, M4⟩
       have e3' : W4.cell? ⟨B, 3, none⟩ = some (.slice bA nb bc) := (HC.out W4 M4.off).cell 3
       have e4' : W4.cell? ⟨B, 4, none⟩ = some (.int .i64 n) := (HC.out W4 M4.off).cell 4)
    | (go_at_call 33; (with_reducible refine (reffail_any (HX3.out W4 M4.off) n once).mono ?_); rintro e W5 ⟨rfl, g5⟩))
  have HO5 := Lib.hid ((HO3.out.ret M4).own g5 HTX.out hvX)
  clear M4 g5 e0 e3 e4 e3' e4'
  go_loopw [119] (fun i wr => ∃ j : Nat, j ≤ nb ∧ i = .int .i64 (j : Int) ∧ Hid (OwnT S T3 w0 D (failQ q n once) (.slice A nb cv) nb wr)) (fun i _ => nb - (RowKit.intOf i).toNat)
  case atStart => exact ⟨0, by omega, rfl, HO5⟩
  case round =>
    clear HO5
    obtain ⟨j, hj, rfl, HO⟩ := hrel
    by_cases hjn : j < nb
    · obtain ⟨g, rfl⟩ := HA.out (by omega)
      obtain ⟨⟨z, hz⟩, hfz⟩ := HO.out.at hjn
      go_wp2
      go_roundw
      case rel => exact ⟨j + 1, by omega, by go_num, Lib.hid (HO.out.turn j _)⟩
      case measure => simp [RowKit.intOf]; omega
    · obtain rfl : j = nb := by omega
      go_wp2
      go_ret
      exact ⟨⟨_, rfl⟩, HO.out.mine.less HLE.out⟩
set_option maxRecDepth 100000 in
set_option maxHeartbeats 4000000 in
theorem do_crash {S T : Nat → Prop} {w0 W : World} {D X N : Nat} {q : Q} (M : MineT S T w0 D q W) (hX : EmptyD X W) (hT : T X) (o : OpR) (hok : OpOk W o) (hbl : o.b.length ≤ 10000000) (hk : kindQ o = 7) (hS : Small N q) (hN : N ≤ 1048576) (hkl : o.ks.length ≤ 1048576) (hkS : 0 < o.ks.length → ∀ x, aBlock o.kA = some x → S x) :
    Calls Tryz.prog 9 #[.pointer (some ⟨D, 0, none⟩), .pointer (some ⟨X, 0, none⟩), opAgg o] W fun e w' => (∃ b, e = .returned (.bool b)) ∧ MineT S T w0 D (crashQ q o.ks) w' := by
  have hkq : (IntKind.u64.wrap o.kind).tmod 8 = 7 := hk
  obtain ⟨kd, p, t, bA, bc, b, n, kA, kc, ks⟩ := o
  have hrb := hok.rb
  have hnil := hok.nilb
  unfold opAgg
  dsimp only at *
  obtain ⟨nb, hnb⟩ : ∃ x, b.length = x := ⟨_, rfl⟩
  rw [hnb] at hbl ⊢
  obtain ⟨nk, hnk⟩ : ∃ x, ks.length = x := ⟨_, rfl⟩
  obtain ⟨q7, hq7⟩ : ∃ x, crashQ q ks = x := ⟨_, rfl⟩
  rw [hq7]
  rw [hnk] at hkl ⊢
  have hri := hok.ri
  have hrg := hok.rg
  have hcap := hok.cap
  dsimp only at hri hrg hcap
  rw [hnk] at hcap
  obtain ⟨B, hB⟩ : ∃ B, W.heap.size = B := ⟨_, rfl⟩
  obtain ⟨W1, hW1⟩ : ∃ V, W.alloc (.cells #[.int .i64 kd, .string p, .string t, .slice bA nb bc, .int .i64 n, .slice kA nk kc] 31) = V := ⟨_, rfl⟩
  have hbx := Blk.new (.cells #[.int .i64 kd, .string p, .string t, .slice bA nb bc, .int .i64 n, .slice kA nk kc] 31 (0, 0)) W
  have hb1 : Below W.heap.size W W1 := by rw [← hW1]; exact (Below.refl _ _).alloc (Nat.le_refl _) _
  have hz1 : W1.heap.size = B + 1 := by rw [← hW1, ← hB]; simp
  rw [hW1, hB] at hbx
  have hrb1 : RB W1 bA b := hrb.below hb1
  have c3 : (W1.alloc (.cells #[] 5)).cell? ⟨B, 3, none⟩ = some (.slice bA nb bc) := ((Below.refl W1.heap.size W1).alloc (Nat.le_refl _) _).cell (p := ⟨B, 3, none⟩) (by show B < _; omega) |>.trans (hbx.cell 3)
  have hxB : X < B := by have := hX.lt; omega
  have HRI := Lib.hid hri
  have HRG := Lib.hid hrg
  have HKS := Lib.hid hkS
  have HNK := Lib.hid hnk
  have HQ7 := Lib.hid hq7
  have HSM := Lib.hid hS
  clear hri hrg hkS hnk hq7 hS
  have HM := Lib.hid M
  have HX := Lib.hid hX
  have HBX := Lib.hid hbx
  have HB1 := Lib.hid hb1
  have HT := Lib.hid hT
  clear hok hrb M hX hbx hb1 hT
  go_enter Tryz.func9, Tryz.ntmps9
  go_wp2_with (first
    | (at_builtin; refine appIn rfl _ _ rfl W1 b nb bc (B + 1) bA hz1 hnb hnil rfl rfl hrb1 hbl ?_; intro v W3 hv hb3
       have hz3 := hb3.size
       obtain ⟨T3, hT3⟩ : ∃ T3 : Nat → Prop, (fun x => T x ∨ (W.heap.size ≤ x ∧ x < W3.heap.size)) = T3 := ⟨_, rfl⟩
       have hbw3 : Below W.heap.size W W3 := HB1.out.trans (hb3.mono HB1.out.size)
       have hTX : T3 X := by rw [← hT3]; exact .inl HT.out
       have hTB : T3 B := by rw [← hT3]; exact .inr ⟨by omega, by omega⟩
       have HLE : Hid (∀ x, T x → T3 x) := Lib.hid (fun x hx => by rw [← hT3]; exact .inl hx)
       have ho3 : OwnT S T3 w0 D q v nb W3 := by
         have h := HM.out.new hbw3
         rw [hT3] at h
         refine ⟨h, _, (by have h := own_base (b2 := 0) hv (fun _ _ => Nat.zero_le _); rw [hnb] at h; exact h), AllU8.cells b, fun x hx => ?_⟩
         have := World.ownsRow.lt hv x hx
         rw [← hT3]
         exact .inr ⟨by omega, by omega⟩
       have hvX : v.ownBlock ≠ some X := fun e => by have := World.ownsRow.lt hv X e; omega
       have hc : ∀ V, Off (fun x => ¬ (S x ∨ T3 x)) W3 V → Blk B (.cells #[.int .i64 kd, .string p, .string t, .slice bA nb bc, .int .i64 n, .slice kA nk kc] 31 (0, 0)) V := fun V o => o.blk ((Off.of_below hb3).blk HBX.out (fun h => h)) (fun h => h (.inr hTB))
       have hx3 : ∀ V, Off (fun x => ¬ (S x ∨ T3 x)) W3 V → EmptyD X V := fun V o => ((HX.out.off (Off.of_below hbw3) (fun h => h)).off o (fun h => h (.inr hTX)))
       obtain ⟨A, cv, rfl, hA⟩ := ho3.form
       have e0 : W3.cell? ⟨B, 0, none⟩ = some (.int .i64 kd) := (hc W3 (Off.refl _ _)).cell 0
       have e5 : W3.cell? ⟨B, 5, none⟩ = some (.slice kA nk kc) := (hc W3 (Off.refl _ _)).cell 5
       have HRI3 : Hid (RI W3 kA ks) := Lib.hid (fun hz => by
         obtain ⟨b', off, he, hbl', hcs⟩ := HRI.out hz
         exact ⟨b', off, he, Nat.lt_of_lt_of_le hbl' hbw3.size, fun j hj => (Off.of_below hbw3).cell (hcs j hj) (fun h => h)⟩)
       have HO3 := Lib.hid ho3
       have HC := Lib.hid hc
       have HX3 := Lib.hid hx3
       have HTX := Lib.hid hTX
       have HA := Lib.hid hA
       clear hv hb3 hT3 hbw3 hTX hTB ho3 hc hx3 hA c3 hrb1)
    | (go_at_call 22; (with_reducible refine (side_crash HO3.out.lt HO3.out.side (Below.refl _ _) HSM.out hN ks nk HNK.out kA kc HRI3.out HRG.out (by rw [HNK.out]; exact hkl) (by rw [HNK.out]; exact hcap) (fun hz x hx => .inl (.inl (HKS.out hz x hx))) HQ7.out).mono ?_); rintro e W4 ⟨rfl, M4⟩
       have e5' : W4.cell? ⟨B, 5, none⟩ = some (.slice kA nk kc) := (HC.out W4 M4.off).cell 5)
    | (go_at_call 34; (with_reducible refine (refcrash_any (HX3.out W4 M4.off) kA nk kc).mono ?_); rintro e W5 ⟨rfl, g5⟩))
  have HO5 := Lib.hid ((HO3.out.ret M4).own g5 HTX.out hvX)
  clear M4 g5 e0 e5 e5'
  go_loopw [119] (fun i wr => ∃ j : Nat, j ≤ nb ∧ i = .int .i64 (j : Int) ∧ Hid (OwnT S T3 w0 D q7 (.slice A nb cv) nb wr)) (fun i _ => nb - (RowKit.intOf i).toNat)
  case atStart => exact ⟨0, by omega, rfl, HO5⟩
  case round =>
    clear HO5
    obtain ⟨j, hj, rfl, HO⟩ := hrel
    by_cases hjn : j < nb
    · obtain ⟨g, rfl⟩ := HA.out (by omega)
      obtain ⟨⟨z, hz⟩, hfz⟩ := HO.out.at hjn
      go_wp2
      go_roundw
      case rel => exact ⟨j + 1, by omega, by go_num, Lib.hid (HO.out.turn j _)⟩
      case measure => simp [RowKit.intOf]; omega
    · obtain rfl : j = nb := by omega
      go_wp2
      go_ret
      exact ⟨⟨_, rfl⟩, HO.out.mine.less HLE.out⟩
end Go.Proofs.YtbodkjifpmencaaGreat
