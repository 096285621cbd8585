/-
  The document's Size of layer 8. Conditions: at most forty within one another are asked for.
-/
import Derived.Test.YtklcjimmbkpbdaaGreatDoorZ20
namespace Go.Proofs.YtklcjimmbkpbdaaGreatDoor
open Go.RowKit
open Go.Lib

theorem run_max3 {P : Program} (w : World) (ts : Array TypeId) (t : TypeId) (x y z M : Int) (h : max (max x y) z = M) :
    (Builtin.max_ ts t #[.int .i64 x, .int .i64 y, .int .i64 z]).run P w = .ok (.int .i64 M) w := by
  have e : ∀ x y : Int, (if x < y then y else x) = max x y := by
    intro x y
    rw [Int.max_def]
    split <;> split <;> omega
  subst h
  simp [Builtin.max_, Builtin.max2, e]
theorem run_max5 {P : Program} (w : World) (ts : Array TypeId) (t : TypeId) (a b c d x M : Int) (h : max (max (max (max a b) c) d) x = M) :
    (Builtin.max_ ts t #[.int .i64 a, .int .i64 b, .int .i64 c, .int .i64 d, .int .i64 x]).run P w = .ok (.int .i64 M) w := by
  have e : ∀ x y : Int, (if x < y then y else x) = max x y := by
    intro x y
    rw [Int.max_def]
    split <;> split <;> omega
  subst h
  simp [Builtin.max_, Builtin.max2, e]
theorem wA_take {l : List XA} {k : Nat} (h : k < l.length) : wA (l.take (k + 1)) = wA (l.take k) + (l[k].1.length + l[k].2.1.length + l[k].2.2.length + 1) := by
  rw [List.take_succ_eq_append_getElem h]
  unfold wA
  rw [List.map_append, List.sum_append, List.map_cons, List.map_nil, List.sum_cons, List.sum_nil]
  omega
theorem wXs_take {l : List XV} {k : Nat} (h : k < l.length) : wXs (l.take (k + 1)) = wXs (l.take k) + wX l[k] := by
  rw [List.take_succ_eq_append_getElem h, wXs_append, wXs, wXs]
  omega
/-- What the document's Size says. -/
def SzO (d : Nat) (v : XV) (w : World) (e : Ending) (w' : World) : Prop := (∃ y : Int, e = .returned (.int .i64 y) ∧ 0 ≤ y ∧ y ≤ 500000 + 100000 * (d : Int) ∧ (y ≤ 100000 → (wX v : Int) ≤ y)) ∧ Below w.heap.size w w'
theorem SzO.big {d : Nat} {v : XV} {w w' : World} (hb : Below w.heap.size w w') : SzO d v w (.returned (.int .i64 100001)) w' := ⟨⟨100001, rfl, by decide, by omega, fun h => absurd h (by decide)⟩, hb⟩
set_option maxRecDepth 100000 in
set_option maxHeartbeats 1000000 in
theorem rsize_any (T : Nat → Prop) : ∀ (d : Nat) (z : Int) (v : XV) (x : Value) (w : World), d ≤ 40 → z = (d : Int) → XR w T v x → Calls Tryz.prog 14 #[x, .int .i64 z] w (SzO d v w)
  | 0, z, v, x, w, _, hz, hx => by
    obtain ⟨aA, ac, kA, kc, rfl⟩ := xr_one hx
    subst hz
    have HB := Lib.hid (below_alloc8 w (.cells #[sV v.space, sV v.name, .slice aA v.attrs.length ac, .slice kA v.kids.length kc, sV v.text] TNo (0, 0)))
    clear hx
    go_enter Tryz.func14, Tryz.ntmps14
    go_wp2
    go_ret
    exact SzO.big HB.out
  | d + 1, z, v, x, w, hd, hz, hx => by
    have IH := Lib.hid (rsize_any T d)
    obtain ⟨sp, nm, al, ks, tx⟩ := v
    obtain ⟨aA, ac, kA, kc, rfl, hR, hK⟩ := XR.attrs hx
    have hwe := wX_eq (.mk sp nm al ks tx)
    simp only [XV.space, XV.name, XV.text, XV.attrs, XV.kids] at hwe
    have HWE := Lib.hid hwe
    obtain ⟨nA, hnA⟩ : ∃ n, al.length = n := ⟨_, rfl⟩
    obtain ⟨nK, hnK⟩ : ∃ n, ks.length = n := ⟨_, rfl⟩
    have HNA := Lib.hid hnA
    have HNK := Lib.hid hnK
    rw [hnA, hnK]
    have hB1 := below_alloc8 w (.cells #[sV sp, sV nm, .slice aA nA ac, .slice kA nK kc, sV tx] TNo (0, 0))
    have HX := Lib.hid (Blk.new (.cells #[sV sp, sV nm, .slice aA nA ac, .slice kA nK kc, sV tx] TNo (0, 0)) w)
    have HB1 := Lib.hid hB1
    have HR := Lib.hid (hR.off (Off.of_below hB1) (fun _ _ h => h))
    have HK := Lib.hid (RN8.off hK (Off.of_below hB1) (fun _ _ h => h))
    obtain ⟨l0, hl0⟩ : ∃ n, sp.length = n := ⟨_, rfl⟩
    obtain ⟨l1, hl1⟩ : ∃ n, nm.length = n := ⟨_, rfl⟩
    obtain ⟨l4, hl4⟩ : ∃ n, tx.length = n := ⟨_, rfl⟩
    have s0 : (bs sp).size = l0 := by rw [bs_size, hl0]
    have s1 : (bs nm).size = l1 := by rw [bs_size, hl1]
    have s4 : (bs tx).size = l4 := by rw [bs_size, hl4]
    rw [hl0, hl1, hl4] at HWE
    have hzne : (z == 0) = false := by rw [beq_eq_false_iff_ne]; omega
    have hzn2 : ¬ z = 0 := by omega
    have hza : 1 ≤ z := by omega
    have hd9 : d ≤ 39 := by omega
    have hzb : z ≤ 41 := by omega
    have HZ := Lib.hid (And.intro hz hd)
    obtain ⟨X, hX⟩ : ∃ X, max (max (max (max (l0 : Int) l1) l4) nA) nK = X := ⟨_, rfl⟩
    have HXM := Lib.hid hX
    have hmax : ∀ W, (Builtin.max_ #[3, 3, 3, 3, 3] 3 #[.int .i64 (l0 : Int), .int .i64 (l1 : Int), .int .i64 (l4 : Int), .int .i64 (nA : Int), .int .i64 (nK : Int)]).run Tryz.prog W = .ok (.int .i64 X) W := fun W => run_max5 W _ _ _ _ _ _ _ _ hX
    clear hx hR hK hwe hnA hnK hl0 hl1 hl4 hX hB1 hz hd
    by_cases hbig : 100000 < X
    · go_enter Tryz.func14, Tryz.ntmps14
      go_wp2
      go_ret
      exact SzO.big HB1.out
    · have g0 : l0 ≤ 100000 := by have := HXM.out; omega
      have g1 : l1 ≤ 100000 := by have := HXM.out; omega
      have g4 : l4 ≤ 100000 := by have := HXM.out; omega
      have gA : nA ≤ 100000 := by have := HXM.out; omega
      have gK : nK ≤ 100000 := by have := HXM.out; omega
      go_enter Tryz.func14, Tryz.ntmps14
      go_wp2
      clear hmax s0 s1 s4 hzne hzn2 hbig HXM
      obtain ⟨w1, hw1⟩ : ∃ x, w.alloc (.cells #[sV sp, sV nm, .slice aA nA ac, .slice kA nK kc, sV tx] TNo (0, 0)) = x := ⟨_, rfl⟩
      rw [hw1] at HX HB1 HR HK
      go_loopw [5, 46] (fun s5 i wr => ∃ (y : Int) (k : Nat), k ≤ nA ∧ i = .int .i64 k ∧ s5 = .int .i64 y ∧ 0 ≤ y ∧ y ≤ 400001 ∧ Hid (y = 1 + l0 + l1 + l4 + wA (al.take k)) ∧ Hid (Below w1.heap.size w1 wr)) (fun _ i _ => nA - (RowKit.intOf i).toNat)
      case atStart => exact ⟨_, 0, Nat.zero_le _, rfl, rfl, by omega, by omega, Lib.hid (by rw [List.take_zero]; show _ = 1 + (l0 : Int) + l1 + l4 + ((wA [] : Nat) : Int); rw [show wA [] = 0 from rfl]; omega), Lib.hid (by rw [← hw1]; exact Below.refl _ _)⟩
      case round =>
        clear hw1 g0 g1 g4
        obtain ⟨y, k, hk, rfl, rfl, hy0, hy1, HY, HB⟩ := hrel
        by_cases hlt : k < nA
        · have hkl : k < al.length := by rw [HNA.out]; exact hlt
          obtain ⟨bb, off, hAe, hT, hbl, hcl⟩ := HR.out (by rw [cA_len]; omega)
          obtain ⟨c0, c1, c2⟩ := RC.a3 hcl k hkl
          have HTK := Lib.hid (wA_take hkl)
          obtain ⟨a, ha⟩ : ∃ a, al[k] = a := ⟨_, rfl⟩
          rw [ha] at c0 c1 c2 HTK
          have hb := HB.out
          have y0 := (hb.cell (p := ⟨bb, off + k * 3, none⟩) hbl).trans c0
          have y1 := (hb.cell (p := ⟨bb, off + k * 3 + 1, none⟩) hbl).trans c1
          have y2 := (hb.cell (p := ⟨bb, off + k * 3 + 2, none⟩) hbl).trans c2
          subst hAe
          obtain ⟨⟨asp, anm, avl⟩, rfl⟩ : ∃ x : XA, a = x := ⟨_, rfl⟩
          simp only at y0 y1 y2 HTK
          have hB2 := below_alloc8 wr (.cells #[sV asp, sV anm, sV avl] TA3 (0, 0))
          have HB2 : Hid (Below w1.heap.size w1 (wr.alloc (.cells #[sV asp, sV anm, sV avl] TA3 (0, 0)))) := Lib.hid (hb.trans (hB2.mono hb.size))
          have HBE : Hid (Below w.heap.size w (wr.alloc (.cells #[sV asp, sV anm, sV avl] TA3 (0, 0)))) := Lib.hid (HB1.out.trans (HB2.out.mono HB1.out.size))
          obtain ⟨m0, hm0⟩ : ∃ n, asp.length = n := ⟨_, rfl⟩
          obtain ⟨m1, hm1⟩ : ∃ n, anm.length = n := ⟨_, rfl⟩
          obtain ⟨m2, hm2⟩ : ∃ n, avl.length = n := ⟨_, rfl⟩
          have t0 : (bs asp).size = m0 := by rw [bs_size, hm0]
          have t1 : (bs anm).size = m1 := by rw [bs_size, hm1]
          have t2 : (bs avl).size = m2 := by rw [bs_size, hm2]
          rw [hm0, hm1, hm2] at HTK
          clear c0 c1 c2 hcl ha hb hB2 hm0 hm1 hm2
          by_cases hyb : 100000 < y
          · go_wp2
            go_ret
            exact SzO.big HBE.out
          · obtain ⟨X2, hX2⟩ : ∃ X, max (max (m0 : Int) m1) m2 = X := ⟨_, rfl⟩
            have hmax : ∀ W, (Builtin.max_ #[3, 3, 3] 3 #[.int .i64 (m0 : Int), .int .i64 (m1 : Int), .int .i64 (m2 : Int)]).run Tryz.prog W = .ok (.int .i64 X2) W := fun W => run_max3 W _ _ _ _ _ _ hX2
            have HX2 := Lib.hid hX2
            clear hX2
            by_cases hxb : 100000 < X2
            · go_wp2
              go_ret
              exact SzO.big HBE.out
            · have e0 : m0 ≤ 100000 := by have := HX2.out; omega
              have e1 : m1 ≤ 100000 := by have := HX2.out; omega
              have e2 : m2 ≤ 100000 := by have := HX2.out; omega
              go_wp2
              go_roundw
              case rel => exact ⟨y + ((m0 : Int) + m1 + m2 + 1), k + 1, by omega, by go_num, by go_num, by omega, by omega, Lib.hid (by have h1 := HY.out; have h2 := HTK.out; omega), HB2⟩
              case measure => simp [RowKit.intOf]; omega
        · obtain rfl : nA = k := by omega
          have htk : al.take nA = al := List.take_of_length_le (by rw [HNA.out]; exact Nat.le_refl _)
          rw [htk] at HY
          have x1 := (Off.of_below HB.out).blk HX.out (fun h => h)
          have q3 := x1.cell 3
          clear htk x1
          go_wp2
          clear q3
          go_loopw [5, 83] (fun s5 i wr => ∃ (y2 : Int) (k : Nat), k ≤ nK ∧ i = .int .i64 k ∧ s5 = .int .i64 y2 ∧ 0 ≤ y2 ∧ y2 ≤ 600000 + 100000 * (d : Int) ∧ Hid (y2 ≤ 100000 → 1 + l0 + l1 + l4 + wA al + wXs (ks.take k) ≤ y2) ∧ Hid (Below w1.heap.size w1 wr)) (fun _ i _ => nK - (RowKit.intOf i).toNat)
          case atStart => exact ⟨_, 0, Nat.zero_le _, rfl, rfl, hy0, by omega, Lib.hid (fun _ => by rw [List.take_zero, wXs]; have := HY.out; omega), HB⟩
          case round =>
            clear HB HY
            obtain ⟨y2, j, hj, rfl, rfl, hz0, hz1, HY2, HB⟩ := hrel
            by_cases hjt : j < nK
            · have hjl : j < ks.length := by rw [HNK.out]; exact hjt
              obtain ⟨bb, off, hAe, hT, hbl, hll⟩ := HK.out (by omega)
              obtain ⟨kaA, kac, kkA, kkc, c0, c1, c2, c3, c4, hxk⟩ := XRl.cells hll j hjl
              have HTK := Lib.hid (wXs_take hjl)
              obtain ⟨kid, hkid⟩ : ∃ a, ks[j] = a := ⟨_, rfl⟩
              rw [hkid] at c0 c1 c2 c3 c4 hxk HTK
              have hb := HB.out
              have y0 := (hb.cell (p := ⟨bb, off + j * 5, none⟩) hbl).trans c0
              have y1 := (hb.cell (p := ⟨bb, off + j * 5 + 1, none⟩) hbl).trans c1
              have y2' := (hb.cell (p := ⟨bb, off + j * 5 + 2, none⟩) hbl).trans c2
              have y3 := (hb.cell (p := ⟨bb, off + j * 5 + 3, none⟩) hbl).trans c3
              have y4 := (hb.cell (p := ⟨bb, off + j * 5 + 4, none⟩) hbl).trans c4
              subst hAe
              have hB2 := below_alloc8 wr (.cells #[sV kid.space, sV kid.name, .slice kaA kid.attrs.length kac, .slice kkA kid.kids.length kkc, sV kid.text] TNo (0, 0))
              have hb2 := hb.trans (hB2.mono hb.size)
              have HB2 := Lib.hid hb2
              have HBE := Lib.hid (HB1.out.trans (hb2.mono HB1.out.size))
              have HC := Lib.hid (IH.out (z - 1) kid _ _ (by have := HZ.out.2; omega) (by have := HZ.out.1; omega) (hxk.below hb2))
              unfold SzO at HC
              have hwrz : IntKind.i64.wrap (z - 1) = z - 1 := IntWalk.i64_in _ (by omega)
              clear c0 c1 c2 c3 c4 hll hkid hb hB2 hb2 hxk
              by_cases hyb : 100000 < y2
              · go_wp2
                go_ret
                exact SzO.big HBE.out
              · go_wp2_with fail
                refine HC.out.mono ?_
                rintro e w5 ⟨⟨r, rfl, hr0, hr1, hr2⟩, b5⟩
                have HB5 := Lib.hid (HB2.out.trans (b5.mono HB2.out.size))
                have HR2 := Lib.hid hr2
                clear b5 hr2
                go_wp2
                go_roundw
                case rel => exact ⟨y2 + r, j + 1, by omega, by go_num, by go_num, by omega, by omega, Lib.hid (fun h => by have h1 := HY2.out (by omega); have h2 := HR2.out (by omega); have h3 := HTK.out; omega), HB5⟩
                case measure => simp [RowKit.intOf]; omega
            · obtain rfl : nK = j := by omega
              have htk : ks.take nK = ks := List.take_of_length_le (by rw [HNK.out]; exact Nat.le_refl _)
              rw [htk] at HY2
              have HBE := Lib.hid (HB1.out.trans (HB.out.mono HB1.out.size))
              clear htk
              go_wp2
              go_ret
              exact ⟨⟨y2, rfl, hz0, by omega, fun h => by have h1 := HY2.out h; have h2 := HWE.out; omega⟩, HBE.out⟩
end Go.Proofs.YtklcjimmbkpbdaaGreatDoor
