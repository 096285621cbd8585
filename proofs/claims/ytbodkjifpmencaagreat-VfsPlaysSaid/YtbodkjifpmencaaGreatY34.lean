/-
  The law's do of a failure, of a crash, and of any act, on both disks. No conditions.
-/
import Derived.Test.YtbodkjifpmencaaGreatY32
import Derived.Test.YtbodkjifpmencaaGreatY33
namespace Go.Proofs.YtbodkjifpmencaaGreat
open Go.RowKit
open Go.Lib

theorem ref_fail {U : Nat → Prop} {X : Nat} {r : R} {W : World} (hR : ∃ G, RD U X G r W) (calls : Int) (once : Bool) (r7 : R) (h : failR r calls once = r7) :
    Calls Tryz.prog 33 #[.pointer (some ⟨X, 0, none⟩), .int .i64 calls, .bool once] W fun e w' => e = .returned (.tuple #[]) ∧ Rs U X r7 W w' := by
  obtain ⟨G, hG⟩ := hR
  subst h
  refine (rfail_any hG calls once).mono ?_
  rintro e w' ⟨rfl, hR2, ho⟩
  exact ⟨rfl, Rs.call (F := fun k => k = X) (Rs.refl hG) (hR2.mono (fun _ h => .inl h)) (fun x hx => .inl (by rw [hx]; exact hG.tx)) ho⟩
theorem ref_crash {U : Nat → Prop} {X N : Nat} {q : Q} {r : R} {W : World} (hR : ∃ G, RD U X G r W) (hU : ∀ b, U b → b < W.heap.size) (D : Dbl N q r) (hN : N ≤ 250000) (ks : List Int) (kA : Option Addr) (kc nk : Nat) (hnk : ks.length = nk) (hnk2 : nk ≤ 1000000) (hK : RI W kA ks) (hkU : 0 < ks.length → ∀ b, aBlock kA = some b → ¬ U b) (r7 : R) (h : crashR r ks (dirsS q) = r7) :
    Calls Tryz.prog 34 #[.pointer (some ⟨X, 0, none⟩), .slice kA nk kc] W fun e w' => e = .returned (.tuple #[]) ∧ Rs U X r7 W w' := by
  obtain ⟨G, hG⟩ := hR
  subst h
  have hch := (stayAll_rest r ks r.bodies.length).1
  refine rcrash_any hG hU ks kA kc nk hnk hnk2 hK hkU (dirsS q) (dirsS q).length r.bodies.length rfl ?_ rfl (Nat.le_trans D.rsm.nb (by omega)) (fun i k => ?_) (by have := D.rsm.nc; have := D.rkepts; omega) D.rsm.ch (fun k hk => D.sim.crash_turn D.once D.small _ hch k hk) (D.sim.crash_end _ hch)
  · rw [(dirsS_perm q).length_eq, List.length_map]
    have := D.small.nc
    omega
  · have := rbody_ok (D.rsm.stayAll ks i) k
    exact ⟨by omega, this.2⟩
set_option maxRecDepth 100000 in
set_option maxHeartbeats 8000000 in
theorem both_fail {S T U : Nat → Prop} {w0 W : World} {D X N : Nat} {q : Q} {r : R} (M : MineT S T w0 D q W) (hX : ∃ G, RD U X G r W) (hU : ∀ b, U b → T b) (DD : Dbl N q r) (_hN : N ≤ 250000) (o : OpR) (hok : OpOk W o) (hbl : o.b.length ≤ 3000) (hk : kindQ o = 6) (hbS : 0 < o.b.length → ∀ x, aBlock o.bA = some x → S x) (hkl : o.ks.length ≤ 1000000) (hkS : 0 < o.ks.length → ∀ x, aBlock o.kA = some x → S x) :
    Calls Tryz.prog 9 #[.pointer (some ⟨D, 0, none⟩), .pointer (some ⟨X, 0, none⟩), opAgg o] W fun e w' => e = .returned (.bool true) ∧ Both S w0 D X (failQ q o.n (decide (0 < o.b.length))) (failR r o.n (decide (0 < o.b.length))) w' := by
  have hkq : (IntKind.u64.wrap o.kind).tmod 8 = 6 := hk
  obtain ⟨kd, p, t, bA, bc, b, n, kA, kc, ks⟩ := o
  have hrb := hok.rb
  have hnil := hok.nilb
  have hri := hok.ri
  have hrg := hok.rg
  have hcap := hok.cap
  unfold opAgg
  dsimp only at *
  obtain ⟨nb, hnb⟩ : ∃ x, b.length = x := ⟨_, rfl⟩
  rw [hnb] at hbl hbS ⊢
  obtain ⟨once, hon⟩ : ∃ x, decide (0 < nb) = x := ⟨_, rfl⟩
  rw [hon]
  have hon2 : decide ((0 : Int) < (nb : Int)) = once := by rw [← hon]; simp
  obtain ⟨q7, hq7⟩ : ∃ x, failQ q n once = x := ⟨_, rfl⟩
  obtain ⟨r7, hr7⟩ : ∃ x, failR r n once = x := ⟨_, rfl⟩
  rw [hq7, hr7]
  have HQ7 := Lib.hid hq7
  have HR7 := Lib.hid hr7
  obtain ⟨nk, hnk⟩ : ∃ x, ks.length = x := ⟨_, rfl⟩
  rw [hnk] at hkl hcap hkS ⊢
  obtain ⟨B, hB⟩ : ∃ B, W.heap.size = B := ⟨_, rfl⟩
  obtain ⟨W1, hW1⟩ : ∃ V, W.alloc (.cells #[.int .i64 kd, .string p, .string t, .slice bA nb bc, .int .i64 n, .slice kA nk kc] 31) = V := ⟨_, rfl⟩
  have hbx := Blk.new (.cells #[.int .i64 kd, .string p, .string t, .slice bA nb bc, .int .i64 n, .slice kA nk kc] 31 (0, 0)) W
  have hb1 : Below W.heap.size W W1 := by rw [← hW1]; exact (Below.refl _ _).alloc (Nat.le_refl _) _
  have hz1 : W1.heap.size = B + 1 := by rw [← hW1, ← hB]; simp
  rw [hW1, hB] at hbx
  have hrb1 : RB W1 bA b := hrb.below hb1
  have c3 : (W1.alloc (.cells #[] 5)).cell? ⟨B, 3, none⟩ = some (.slice bA nb bc) := ((Below.refl W1.heap.size W1).alloc (Nat.le_refl _) _).cell (p := ⟨B, 3, none⟩) (by show B < _; omega) |>.trans (hbx.cell 3)
  have hUl : ∀ x, U x → x < B := fun x hx => by rw [← hB]; exact M.2.2.1 x (.inr (hU x hx))
  have hSl : ∀ x, S x → x < B := fun x hx => by rw [← hB]; exact M.2.2.1 x (.inl hx)
  have hUS : ∀ x, U x → ¬ S x := fun x hx => M.2.2.2 x (hU x hx)
  obtain ⟨TX, hTX⟩ : ∃ x, bs b = x := ⟨_, rfl⟩
  have HTXE := Lib.hid hTX
  have HBS := Lib.hid hbS
  have HKS := Lib.hid hkS
  have HNB := Lib.hid hnb
  have HNK := Lib.hid hnk
  have HRI := Lib.hid hri
  have HRG := Lib.hid hrg
  have HDD := Lib.hid DD
  have HSM := Lib.hid DD.small
  have HM := Lib.hid M
  have HX := Lib.hid hX
  have HBX := Lib.hid hbx
  have HB1 := Lib.hid hb1
  have HU := Lib.hid hU
  have HUL := Lib.hid hUl
  have HUS := Lib.hid hUS
  have HSL := Lib.hid hSl
  clear hok hrb hri hrg hkS hnk M hX hbx hb1 hU hTX hbS DD hUl hUS hSl
  clear hq7 hr7
  go_enter Tryz.func9, Tryz.ntmps9
  go_wp2_with (first
    | (at_builtin; refine appIn rfl _ _ rfl W1 b nb bc (B + 1) bA hz1 hnb hnil rfl rfl hrb1 (by omega) ?_; intro v W3 hv hb3
       have hz3 := hb3.size
       obtain ⟨T3, hT3⟩ : ∃ T3 : Nat → Prop, (fun x => T x ∨ (W.heap.size ≤ x ∧ x < W3.heap.size)) = T3 := ⟨_, rfl⟩
       have hbw3 : Below W.heap.size W W3 := HB1.out.trans (hb3.mono HB1.out.size)
       have hTB : T3 B := by rw [← hT3]; exact .inr ⟨by omega, by omega⟩
       have hU3 : ∀ x, U x → T3 x := fun x hx => by rw [← hT3]; exact .inl (HU.out x hx)
       have ho3 : OwnT S T3 w0 D q v nb W3 := by
         have h := HM.out.new hbw3
         rw [hT3] at h
         refine ⟨h, _, (by have h := own_base (b2 := 0) hv (fun _ _ => Nat.zero_le _); rw [hnb] at h; exact h), AllU8.cells b, fun x hx => ?_⟩
         have := World.ownsRow.lt hv x hx
         rw [← hT3]
         exact .inr ⟨by omega, by omega⟩
       have hvU : ∀ x, v.ownBlock = some x → ¬ U x ∧ x < W3.heap.size := fun x hx => by
         have h1 := World.ownsRow.lt hv x hx
         exact ⟨fun hu => by have := HUL.out x hu; omega, h1.2⟩
       have hc : ∀ V, Off (fun x => ¬ (S x ∨ T3 x)) W3 V → Blk B (.cells #[.int .i64 kd, .string p, .string t, .slice bA nb bc, .int .i64 n, .slice kA nk kc] 31 (0, 0)) V := fun V o => o.blk ((Off.of_below hb3).blk HBX.out (fun h => h)) (fun h => h (.inr hTB))
       have hx3 : ∀ V, Off (fun x => ¬ (S x ∨ T3 x)) W3 V → ∃ G, RD U X G r V := fun V o => by
         obtain ⟨G, hG⟩ := HX.out
         exact ⟨G, (hG.off (Off.of_below hbw3) (fun _ _ h => h)).off o (fun x hx h => h (.inr (hU3 x hx)))⟩
       have hl3 : ∀ x, U x → x < W3.heap.size := fun x hx => by have := HUL.out x hx; omega
       obtain ⟨A, cv, rfl, hA⟩ := ho3.form
       have e0 : W3.cell? ⟨B, 0, none⟩ = some (.int .i64 kd) := (hc W3 (Off.refl _ _)).cell 0
       have e3 : W3.cell? ⟨B, 3, none⟩ = some (.slice bA nb bc) := (hc W3 (Off.refl _ _)).cell 3
       have e4 : W3.cell? ⟨B, 4, none⟩ = some (.int .i64 n) := (hc W3 (Off.refl _ _)).cell 4
       have HO3 := Lib.hid ho3
       have HC := Lib.hid hc
       have HX3 := Lib.hid hx3
       have HUL3 := Lib.hid hl3
       have HU3 := Lib.hid hU3
       have HVU := Lib.hid hvU
       have HA := Lib.hid hA
       clear hv hb3 hT3 hbw3 hTB hU3 ho3 hvU hc hx3 hA c3 hrb1 hl3)
    | (go_at_call 24; (with_reducible refine (side_fail HO3.out.lt HO3.out.side n once).mono ?_); rintro e W4 ⟨rfl, M4⟩
       rw [HQ7.out] at M4
       have e3' : W4.cell? ⟨B, 3, none⟩ = some (.slice bA nb bc) := (HC.out W4 M4.off).cell 3
       have e4' : W4.cell? ⟨B, 4, none⟩ = some (.int .i64 n) := (HC.out W4 M4.off).cell 4)
    | (go_at_call 33; (with_reducible refine (ref_fail (HX3.out W4 M4.off) n once r7 HR7.out).mono ?_); rintro e W5 ⟨rfl, R5⟩))
  obtain ⟨T5, U5, HO5⟩ : ∃ T5 U5 : Nat → Prop, Hid (OwnD S T5 U5 w0 D X q7 r7 (.slice A nb cv) nb W5) := ⟨_, _, Lib.hid (OwnD.of (HO3.out.ret M4) HU3.out (fun x hx => ⟨(HVU.out x hx).1, Nat.lt_of_lt_of_le (HVU.out x hx).2 M4.off.size⟩) R5)⟩
  clear M4 R5 e0 e3 e4 e3' e4'
  go_loopw [119] (fun i wr => ∃ j : Nat, j ≤ nb ∧ i = .int .i64 (j : Int) ∧ Hid (OwnD S T5 U5 w0 D X q7 r7 (.slice A nb cv) nb wr)) (fun i _ => nb - (RowKit.intOf i).toNat)
  case atStart => exact ⟨0, by omega, rfl, HO5⟩
  case round =>
    clear HO5
    obtain ⟨j, hj, rfl, HO⟩ := hrel
    by_cases hjn : j < nb
    · obtain ⟨g, rfl⟩ := HA.out (by omega)
      obtain ⟨⟨z, hz⟩, hfz⟩ := HO.out.1.at hjn
      go_wp2
      go_roundw
      case rel => exact ⟨j + 1, by omega, by go_num, Lib.hid (HO.out.turn j _)⟩
      case measure => simp [RowKit.intOf]; omega
    · obtain rfl : j = nb := by omega
      go_wp2
      go_ret
      exact ⟨by first | rfl | simp, HO.out.both⟩
set_option maxRecDepth 100000 in
set_option maxHeartbeats 8000000 in
theorem both_crash {S T U : Nat → Prop} {w0 W : World} {D X N : Nat} {q : Q} {r : R} (M : MineT S T w0 D q W) (hX : ∃ G, RD U X G r W) (hU : ∀ b, U b → T b) (DD : Dbl N q r) (hN : N ≤ 250000) (o : OpR) (hok : OpOk W o) (hbl : o.b.length ≤ 3000) (hk : kindQ o = 7) (hbS : 0 < o.b.length → ∀ x, aBlock o.bA = some x → S x) (hkl : o.ks.length ≤ 1000000) (hkS : 0 < o.ks.length → ∀ x, aBlock o.kA = some x → S x) :
    Calls Tryz.prog 9 #[.pointer (some ⟨D, 0, none⟩), .pointer (some ⟨X, 0, none⟩), opAgg o] W fun e w' => e = .returned (.bool true) ∧ Both S w0 D X (crashQ q o.ks) (crashR r o.ks (dirsS q)) w' := by
  have hkq : (IntKind.u64.wrap o.kind).tmod 8 = 7 := hk
  obtain ⟨kd, p, t, bA, bc, b, n, kA, kc, ks⟩ := o
  have hrb := hok.rb
  have hnil := hok.nilb
  have hri := hok.ri
  have hrg := hok.rg
  have hcap := hok.cap
  unfold opAgg
  dsimp only at *
  obtain ⟨nb, hnb⟩ : ∃ x, b.length = x := ⟨_, rfl⟩
  rw [hnb] at hbl hbS ⊢
  obtain ⟨nk, hnk⟩ : ∃ x, ks.length = x := ⟨_, rfl⟩
  obtain ⟨q7, hq7⟩ : ∃ x, crashQ q ks = x := ⟨_, rfl⟩
  obtain ⟨r7, hr7⟩ : ∃ x, crashR r ks (dirsS q) = x := ⟨_, rfl⟩
  rw [hq7, hr7]
  have HQ7 := Lib.hid hq7
  have HR7 := Lib.hid hr7
  rw [hnk] at hkl hcap hkS ⊢
  obtain ⟨B, hB⟩ : ∃ B, W.heap.size = B := ⟨_, rfl⟩
  obtain ⟨W1, hW1⟩ : ∃ V, W.alloc (.cells #[.int .i64 kd, .string p, .string t, .slice bA nb bc, .int .i64 n, .slice kA nk kc] 31) = V := ⟨_, rfl⟩
  have hbx := Blk.new (.cells #[.int .i64 kd, .string p, .string t, .slice bA nb bc, .int .i64 n, .slice kA nk kc] 31 (0, 0)) W
  have hb1 : Below W.heap.size W W1 := by rw [← hW1]; exact (Below.refl _ _).alloc (Nat.le_refl _) _
  have hz1 : W1.heap.size = B + 1 := by rw [← hW1, ← hB]; simp
  rw [hW1, hB] at hbx
  have hrb1 : RB W1 bA b := hrb.below hb1
  have c3 : (W1.alloc (.cells #[] 5)).cell? ⟨B, 3, none⟩ = some (.slice bA nb bc) := ((Below.refl W1.heap.size W1).alloc (Nat.le_refl _) _).cell (p := ⟨B, 3, none⟩) (by show B < _; omega) |>.trans (hbx.cell 3)
  have hUl : ∀ x, U x → x < B := fun x hx => by rw [← hB]; exact M.2.2.1 x (.inr (hU x hx))
  have hSl : ∀ x, S x → x < B := fun x hx => by rw [← hB]; exact M.2.2.1 x (.inl hx)
  have hUS : ∀ x, U x → ¬ S x := fun x hx => M.2.2.2 x (hU x hx)
  obtain ⟨TX, hTX⟩ : ∃ x, bs b = x := ⟨_, rfl⟩
  have HTXE := Lib.hid hTX
  have HBS := Lib.hid hbS
  have HKS := Lib.hid hkS
  have HNB := Lib.hid hnb
  have HNK := Lib.hid hnk
  have HRI := Lib.hid hri
  have HRG := Lib.hid hrg
  have HDD := Lib.hid DD
  have HSM := Lib.hid DD.small
  have HM := Lib.hid M
  have HX := Lib.hid hX
  have HBX := Lib.hid hbx
  have HB1 := Lib.hid hb1
  have HU := Lib.hid hU
  have HUL := Lib.hid hUl
  have HUS := Lib.hid hUS
  have HSL := Lib.hid hSl
  have hN8 : N ≤ 1048576 := by omega
  clear hok hrb hri hrg hkS hnk M hX hbx hb1 hU hTX hbS DD hUl hUS hSl
  clear hq7 hr7
  go_enter Tryz.func9, Tryz.ntmps9
  go_wp2_with (first
    | (at_builtin; refine appIn rfl _ _ rfl W1 b nb bc (B + 1) bA hz1 hnb hnil rfl rfl hrb1 (by omega) ?_; intro v W3 hv hb3
       have hz3 := hb3.size
       obtain ⟨T3, hT3⟩ : ∃ T3 : Nat → Prop, (fun x => T x ∨ (W.heap.size ≤ x ∧ x < W3.heap.size)) = T3 := ⟨_, rfl⟩
       have hbw3 : Below W.heap.size W W3 := HB1.out.trans (hb3.mono HB1.out.size)
       have hTB : T3 B := by rw [← hT3]; exact .inr ⟨by omega, by omega⟩
       have hU3 : ∀ x, U x → T3 x := fun x hx => by rw [← hT3]; exact .inl (HU.out x hx)
       have ho3 : OwnT S T3 w0 D q v nb W3 := by
         have h := HM.out.new hbw3
         rw [hT3] at h
         refine ⟨h, _, (by have h := own_base (b2 := 0) hv (fun _ _ => Nat.zero_le _); rw [hnb] at h; exact h), AllU8.cells b, fun x hx => ?_⟩
         have := World.ownsRow.lt hv x hx
         rw [← hT3]
         exact .inr ⟨by omega, by omega⟩
       have hvU : ∀ x, v.ownBlock = some x → ¬ U x ∧ x < W3.heap.size := fun x hx => by
         have h1 := World.ownsRow.lt hv x hx
         exact ⟨fun hu => by have := HUL.out x hu; omega, h1.2⟩
       have hc : ∀ V, Off (fun x => ¬ (S x ∨ T3 x)) W3 V → Blk B (.cells #[.int .i64 kd, .string p, .string t, .slice bA nb bc, .int .i64 n, .slice kA nk kc] 31 (0, 0)) V := fun V o => o.blk ((Off.of_below hb3).blk HBX.out (fun h => h)) (fun h => h (.inr hTB))
       have hx3 : ∀ V, Off (fun x => ¬ (S x ∨ T3 x)) W3 V → ∃ G, RD U X G r V := fun V o => by
         obtain ⟨G, hG⟩ := HX.out
         exact ⟨G, (hG.off (Off.of_below hbw3) (fun _ _ h => h)).off o (fun x hx h => h (.inr (hU3 x hx)))⟩
       have hl3 : ∀ x, U x → x < W3.heap.size := fun x hx => by have := HUL.out x hx; omega
       obtain ⟨A, cv, rfl, hA⟩ := ho3.form
       have e0 : W3.cell? ⟨B, 0, none⟩ = some (.int .i64 kd) := (hc W3 (Off.refl _ _)).cell 0
       have e5 : W3.cell? ⟨B, 5, none⟩ = some (.slice kA nk kc) := (hc W3 (Off.refl _ _)).cell 5
       have HRI3 : Hid (RI W3 kA ks) := Lib.hid (fun hz => by
         obtain ⟨b', off, he, hbl', hcs⟩ := HRI.out hz
         exact ⟨b', off, he, Nat.lt_of_lt_of_le hbl' hbw3.size, fun j hj => (Off.of_below hbw3).cell (hcs j hj) (fun h => h)⟩)
       have HO3 := Lib.hid ho3
       have HC := Lib.hid hc
       have HX3 := Lib.hid hx3
       have HUL3 := Lib.hid hl3
       have HU3 := Lib.hid hU3
       have HVU := Lib.hid hvU
       have HA := Lib.hid hA
       clear hv hb3 hT3 hbw3 hTB hU3 ho3 hvU hc hx3 hA c3 hrb1 hl3)
    | (go_at_call 22; (with_reducible refine (side_crash HO3.out.lt HO3.out.side (Below.refl _ _) HSM.out hN8 ks nk HNK.out kA kc HRI3.out HRG.out (by rw [HNK.out]; omega) (by rw [HNK.out]; exact hcap) (fun hz x hx => .inl (.inl (HKS.out (by rw [← HNK.out]; exact hz) x hx))) HQ7.out).mono ?_); rintro e W4 ⟨rfl, M4⟩
       have e5' : W4.cell? ⟨B, 5, none⟩ = some (.slice kA nk kc) := (HC.out W4 M4.off).cell 5)
    | (go_at_call 34; (with_reducible refine (ref_crash (HX3.out W4 M4.off) (fun x hx => Nat.lt_of_lt_of_le (HUL3.out x hx) M4.off.size) HDD.out hN ks kA kc nk HNK.out hkl (HRI3.out.off M4.off (fun hz x hx hn => absurd (.inl (HKS.out (by rw [← HNK.out]; exact hz) x hx)) hn)) (fun hz x hx hu => absurd (HKS.out (by rw [← HNK.out]; exact hz) x hx) (HUS.out x hu)) r7 HR7.out).mono ?_); rintro e W5 ⟨rfl, R5⟩))
  obtain ⟨T5, U5, HO5⟩ : ∃ T5 U5 : Nat → Prop, Hid (OwnD S T5 U5 w0 D X q7 r7 (.slice A nb cv) nb W5) := ⟨_, _, Lib.hid (OwnD.of (HO3.out.ret M4) HU3.out (fun x hx => ⟨(HVU.out x hx).1, Nat.lt_of_lt_of_le (HVU.out x hx).2 M4.off.size⟩) R5)⟩
  clear M4 R5 e0 e5 e5'
  go_loopw [119] (fun i wr => ∃ j : Nat, j ≤ nb ∧ i = .int .i64 (j : Int) ∧ Hid (OwnD S T5 U5 w0 D X q7 r7 (.slice A nb cv) nb wr)) (fun i _ => nb - (RowKit.intOf i).toNat)
  case atStart => exact ⟨0, by omega, rfl, HO5⟩
  case round =>
    clear HO5
    obtain ⟨j, hj, rfl, HO⟩ := hrel
    by_cases hjn : j < nb
    · obtain ⟨g, rfl⟩ := HA.out (by omega)
      obtain ⟨⟨z, hz⟩, hfz⟩ := HO.out.1.at hjn
      go_wp2
      go_roundw
      case rel => exact ⟨j + 1, by omega, by go_num, Lib.hid (HO.out.turn j _)⟩
      case measure => simp [RowKit.intOf]; omega
    · obtain rfl : j = nb := by omega
      go_wp2
      go_ret
      exact ⟨by first | rfl | simp, HO.out.both⟩
theorem both_any {S : Nat → Prop} {w0 W : World} {D X N : Nat} {q : Q} {r : R} (H : Both S w0 D X q r W) (DD : Dbl N q r) (CC : COk r) (hN : N ≤ 250000) (o : OpR) (hok : OpOk W o) (hbl : o.b.length ≤ 3000) (hp : o.path.size ≤ 300) (ht : o.tgt.size ≤ 300) (hbS : 0 < o.b.length → ∀ x, aBlock o.bA = some x → S x) (hkl : o.ks.length ≤ 1000000) (hkS : 0 < o.ks.length → ∀ x, aBlock o.kA = some x → S x) :
    Calls Tryz.prog 9 #[.pointer (some ⟨D, 0, none⟩), .pointer (some ⟨X, 0, none⟩), opAgg o] W fun e w' => e = .returned (.bool true) ∧ Both S w0 D X (actQ q o) (actR q r o) w' := by
  obtain ⟨T, U, M, hX, hU⟩ := H
  have h8 := kindQ_lt o
  unfold actQ actR
  by_cases h6 : kindQ o = 6
  · rw [if_pos h6, if_pos h6]
    exact both_fail M hX hU DD hN o hok hbl h6 hbS hkl hkS
  · rw [if_neg h6, if_neg h6]
    by_cases h7 : kindQ o = 7
    · rw [if_pos h7, if_pos h7]
      exact both_crash M hX hU DD hN o hok hbl h7 hbS hkl hkS
    · rw [if_neg h7, if_neg h7]
      have hh : kindQ o = 0 ∨ kindQ o = 1 ∨ kindQ o = 2 ∨ kindQ o = 3 ∨ kindQ o = 4 ∨ kindQ o = 5 := by omega
      rcases hh with h | h | h | h | h | h
      · exact both_write M hX hU DD CC hN o hok hbl h hp ht hbS hkl hkS
      · exact both_append M hX hU DD CC hN o hok hbl h hp ht hbS hkl hkS
      · exact both_rename M hX hU DD CC hN o hok hbl h hp ht hbS hkl hkS
      · exact both_remove M hX hU DD CC hN o hok hbl h hp ht hbS hkl hkS
      · exact both_sync M hX hU DD CC hN o hok hbl h hp ht hbS hkl hkS
      · exact both_syncDir M hX hU DD CC hN o hok hbl h hp ht hbS hkl hkS
end Go.Proofs.YtbodkjifpmencaaGreat
