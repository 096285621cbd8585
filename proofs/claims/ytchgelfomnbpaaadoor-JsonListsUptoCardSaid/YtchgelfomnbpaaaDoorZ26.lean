/-
  Of the proofs of layer 7 (values of JSON): the parts PN JH. No conditions.
-/
import Derived.Test.YtchgelfomnbpaaaDoorZ08
namespace Go.Proofs.YtchgelfomnbpaaaDoor
open Go.RowKit
open Go.Lib

set_option maxRecDepth 100000 in
set_option maxHeartbeats 2000000 in
theorem pdepth_any (T : Nat → Prop) : ∀ (N : Nat) (v : JV) (x : Value) (w : World), sizeJ v ≤ N → N ≤ 1000000000 → JR w T v x → depthJ v ≤ 1000000000 → Calls Tryd.prog 13 #[x] w fun e w' => e = .returned (.int .i64 (depthJ v)) ∧ Below w.heap.size w w'
  | 0, .mk k t ns l, x, w, h, _, _, _ => by rw [sizeJ] at h; omega
  | N + 1, .mk k t ns l, x, w, hN, hNb, hJ, hd => by
    have IH := Lib.hid (pdepth_any T N)
    rw [JR] at hJ
    obtain ⟨nA, nc, lA, lc, rfl, _, hl⟩ := hJ
    rw [sizeJ] at hN
    obtain ⟨nn, hnn⟩ : ∃ n, ns.length = n := ⟨_, rfl⟩
    obtain ⟨n, hn⟩ : ∃ n, l.length = n := ⟨_, rfl⟩
    rw [hnn, hn]
    have hn9 : n ≤ 1000000000 := by rw [← hn]; have := len_sizes l; omega
    have HN := Lib.hid hn
    have HNN := Lib.hid hN
    have HL := Lib.hid hl
    have HD := Lib.hid hd
    obtain ⟨D, hD⟩ : ∃ D, depthJ (.mk k t ns l) = D := ⟨_, rfl⟩
    have HDE := Lib.hid (show D = if k = 5 ∨ k = 6 then depthsJ l + 1 else 0 by rw [← hD, depthJ])
    rw [hD] at hd HD ⊢
    clear hl hN hn hnn hD
    by_cases hk : k = 5 ∨ k = 6
    · have HE : Hid (D = depthsJ l + 1) := Lib.hid (by rw [HDE.out, if_pos hk])
      obtain ⟨B, hB⟩ : ∃ B, w.heap.size = B := ⟨_, rfl⟩
      have core : ∀ kk : Int, kk = 5 ∨ kk = 6 → Calls Tryd.prog 13 #[.agg #[.int .i64 kk, .string (bs t), .slice nA nn nc, .slice lA n lc]] w fun e w' => e = .returned (.int .i64 D) ∧ Below B w w' := by
        intro kk hkk
        clear hk
        rcases hkk with rfl | rfl
        · go_enter Tryd.func13, Tryd.ntmps13
          go_wp2
          have HB1 : Hid (Below B w (w.alloc (.cells #[.int .i64 5, .string (bs t), .slice nA nn nc, .slice lA n lc] TJ))) := Lib.hid (by rw [← hB]; exact (Below.refl _ _).alloc (Nat.le_refl _) _)
          go_loopw [3, 17] (fun m i wr => ∃ (z : Int) (j : Nat), j ≤ n ∧ i = .int .i64 j ∧ m = .int .i64 z ∧ Hid (z = depthsJ (l.take j)) ∧ Hid (Below B w wr)) (fun _ i _ => n - (RowKit.intOf i).toNat)
          case atStart => exact ⟨0, 0, Nat.zero_le _, rfl, rfl, Lib.hid (by rw [List.take_zero, depthsJ]; rfl), HB1⟩
          case round =>
            clear HB1
            obtain ⟨z, j, hj, rfl, rfl, HZ, HB⟩ := hrel
            by_cases hjn : j < n
            · have hjl : j < l.length := by rw [HN.out]; exact hjn
              obtain ⟨b, off, hAe, hT, hbw, hJl⟩ := HL.out (by omega)
              obtain ⟨x0, x1, x2, x3, c0, c1, c2, c3, hJ⟩ := hJl.at j hjl
              obtain ⟨vj, hvj⟩ : ∃ v, l[j] = v := ⟨_, rfl⟩
              rw [hvj] at hJ
              have hsj : sizeJ vj ≤ N := by rw [← hvj]; have := sizes_at l j hjl; have := HNN.out; omega
              obtain ⟨k', t', ns', l'⟩ := vj
              have hJ' := hJ
              rw [JR] at hJ'
              obtain ⟨nA', nc', lA', lc', hagg, _, _⟩ := hJ'
              obtain ⟨nn', hnn'⟩ : ∃ x, ns'.length = x := ⟨_, rfl⟩
              obtain ⟨ln', hln'⟩ : ∃ x, l'.length = x := ⟨_, rfl⟩
              rw [hnn', hln'] at hagg
              obtain ⟨rfl, rfl, rfl, rfl⟩ : x0 = .int .i64 k' ∧ x1 = .string (bs t') ∧ x2 = .slice nA' nn' nc' ∧ x3 = .slice lA' ln' lc' := by
                injection hagg with h
                simpa using h
              have hb0 : Below w.heap.size w wr := by rw [hB]; exact HB.out
              have y0 := (hb0.cell (p := ⟨b, off + j * 4, none⟩) hbw).trans c0
              have y1 := (hb0.cell (p := ⟨b, off + j * 4 + 1, none⟩) hbw).trans c1
              have y2 := (hb0.cell (p := ⟨b, off + j * 4 + 2, none⟩) hbw).trans c2
              have y3 := (hb0.cell (p := ⟨b, off + j * 4 + 3, none⟩) hbw).trans c3
              have hba : Below wr.heap.size wr (wr.alloc (.cells #[.int .i64 k', .string (bs t'), .slice nA' nn' nc', .slice lA' ln' lc'] TJ)) := (Below.refl _ _).alloc (Nat.le_refl _) _
              have hdt := depths_take l j hjl
              have hdl := depths_le l (j + 1)
              rw [hvj] at hdt
              obtain ⟨dj, hdj⟩ : ∃ d, depthJ (.mk k' t' ns' l') = d := ⟨_, rfl⟩
              rw [hdj] at hdt
              have hdb : dj ≤ 1000000000 := by have := HE.out; omega
              have HC : Hid (Calls Tryd.prog 13 #[.agg #[.int .i64 k', .string (bs t'), .slice nA' nn' nc', .slice lA' ln' lc']] (wr.alloc (.cells #[.int .i64 k', .string (bs t'), .slice nA' nn' nc', .slice lA' ln' lc'] TJ)) fun e w' => e = .returned (.int .i64 dj) ∧ Below (wr.alloc (.cells #[.int .i64 k', .string (bs t'), .slice nA' nn' nc', .slice lA' ln' lc'] TJ)).heap.size (wr.alloc (.cells #[.int .i64 k', .string (bs t'), .slice nA' nn' nc', .slice lA' ln' lc'] TJ)) w') := Lib.hid (by
                have := IH.out (.mk k' t' ns' l') (.agg #[.int .i64 k', .string (bs t'), .slice nA' nn' nc', .slice lA' ln' lc']) (wr.alloc (.cells #[.int .i64 k', .string (bs t'), .slice nA' nn' nc', .slice lA' ln' lc'] TJ)) hsj (by omega) ((hJ.below hb0).below hba) (by rw [hdj]; exact hdb)
                rw [hdj] at this
                exact this)
              have n0 := (Blk.new (.cells #[.int .i64 k', .string (bs t'), .slice nA' nn' nc', .slice lA' ln' lc'] TJ (0, 0)) wr).cell 0
              have n1 := (Blk.new (.cells #[.int .i64 k', .string (bs t'), .slice nA' nn' nc', .slice lA' ln' lc'] TJ (0, 0)) wr).cell 1
              have n2 := (Blk.new (.cells #[.int .i64 k', .string (bs t'), .slice nA' nn' nc', .slice lA' ln' lc'] TJ (0, 0)) wr).cell 2
              have n3 := (Blk.new (.cells #[.int .i64 k', .string (bs t'), .slice nA' nn' nc', .slice lA' ln' lc'] TJ (0, 0)) wr).cell 3
              have HDT := Lib.hid hdt
              have hzb := HZ.out
              have hsz := hb0.size
              subst hAe
              clear hJl hdt hJ hdj hvj hsj hagg hnn' hln' c0 c1 c2 c3
              go_wp2_with (go_at_call 13; (with_reducible refine HC.out.mono ?_); rintro e w5 ⟨rfl, b5⟩)
              exact ⟨⟨_, j + 1, by omega, rfl, rfl, Lib.hid (by rw [HDT.out]; omega), Lib.hid (HB.out.trans (Below.mono ((hba.trans (b5.mono hba.size))) (by omega)))⟩, by show n - ((j : Int) + 1).toNat < n - (j : Int).toNat; omega⟩
            · obtain rfl : j = n := by omega
              have htk : l.take j = l := List.take_of_length_le (by rw [HN.out]; exact Nat.le_refl _)
              rw [htk] at HZ
              have hz := HZ.out
              have he := HE.out
              clear htk
              go_wp2
              go_ret
              exact ⟨ret_i6 (by omega), HB.out⟩
        · go_enter Tryd.func13, Tryd.ntmps13
          go_wp2
          have HB1 : Hid (Below B w (w.alloc (.cells #[.int .i64 6, .string (bs t), .slice nA nn nc, .slice lA n lc] TJ))) := Lib.hid (by rw [← hB]; exact (Below.refl _ _).alloc (Nat.le_refl _) _)
          go_loopw [3, 17] (fun m i wr => ∃ (z : Int) (j : Nat), j ≤ n ∧ i = .int .i64 j ∧ m = .int .i64 z ∧ Hid (z = depthsJ (l.take j)) ∧ Hid (Below B w wr)) (fun _ i _ => n - (RowKit.intOf i).toNat)
          case atStart => exact ⟨0, 0, Nat.zero_le _, rfl, rfl, Lib.hid (by rw [List.take_zero, depthsJ]; rfl), HB1⟩
          case round =>
            clear HB1
            obtain ⟨z, j, hj, rfl, rfl, HZ, HB⟩ := hrel
            by_cases hjn : j < n
            · have hjl : j < l.length := by rw [HN.out]; exact hjn
              obtain ⟨b, off, hAe, hT, hbw, hJl⟩ := HL.out (by omega)
              obtain ⟨x0, x1, x2, x3, c0, c1, c2, c3, hJ⟩ := hJl.at j hjl
              obtain ⟨vj, hvj⟩ : ∃ v, l[j] = v := ⟨_, rfl⟩
              rw [hvj] at hJ
              have hsj : sizeJ vj ≤ N := by rw [← hvj]; have := sizes_at l j hjl; have := HNN.out; omega
              obtain ⟨k', t', ns', l'⟩ := vj
              have hJ' := hJ
              rw [JR] at hJ'
              obtain ⟨nA', nc', lA', lc', hagg, _, _⟩ := hJ'
              obtain ⟨nn', hnn'⟩ : ∃ x, ns'.length = x := ⟨_, rfl⟩
              obtain ⟨ln', hln'⟩ : ∃ x, l'.length = x := ⟨_, rfl⟩
              rw [hnn', hln'] at hagg
              obtain ⟨rfl, rfl, rfl, rfl⟩ : x0 = .int .i64 k' ∧ x1 = .string (bs t') ∧ x2 = .slice nA' nn' nc' ∧ x3 = .slice lA' ln' lc' := by
                injection hagg with h
                simpa using h
              have hb0 : Below w.heap.size w wr := by rw [hB]; exact HB.out
              have y0 := (hb0.cell (p := ⟨b, off + j * 4, none⟩) hbw).trans c0
              have y1 := (hb0.cell (p := ⟨b, off + j * 4 + 1, none⟩) hbw).trans c1
              have y2 := (hb0.cell (p := ⟨b, off + j * 4 + 2, none⟩) hbw).trans c2
              have y3 := (hb0.cell (p := ⟨b, off + j * 4 + 3, none⟩) hbw).trans c3
              have hba : Below wr.heap.size wr (wr.alloc (.cells #[.int .i64 k', .string (bs t'), .slice nA' nn' nc', .slice lA' ln' lc'] TJ)) := (Below.refl _ _).alloc (Nat.le_refl _) _
              have hdt := depths_take l j hjl
              have hdl := depths_le l (j + 1)
              rw [hvj] at hdt
              obtain ⟨dj, hdj⟩ : ∃ d, depthJ (.mk k' t' ns' l') = d := ⟨_, rfl⟩
              rw [hdj] at hdt
              have hdb : dj ≤ 1000000000 := by have := HE.out; omega
              have HC : Hid (Calls Tryd.prog 13 #[.agg #[.int .i64 k', .string (bs t'), .slice nA' nn' nc', .slice lA' ln' lc']] (wr.alloc (.cells #[.int .i64 k', .string (bs t'), .slice nA' nn' nc', .slice lA' ln' lc'] TJ)) fun e w' => e = .returned (.int .i64 dj) ∧ Below (wr.alloc (.cells #[.int .i64 k', .string (bs t'), .slice nA' nn' nc', .slice lA' ln' lc'] TJ)).heap.size (wr.alloc (.cells #[.int .i64 k', .string (bs t'), .slice nA' nn' nc', .slice lA' ln' lc'] TJ)) w') := Lib.hid (by
                have := IH.out (.mk k' t' ns' l') (.agg #[.int .i64 k', .string (bs t'), .slice nA' nn' nc', .slice lA' ln' lc']) (wr.alloc (.cells #[.int .i64 k', .string (bs t'), .slice nA' nn' nc', .slice lA' ln' lc'] TJ)) hsj (by omega) ((hJ.below hb0).below hba) (by rw [hdj]; exact hdb)
                rw [hdj] at this
                exact this)
              have n0 := (Blk.new (.cells #[.int .i64 k', .string (bs t'), .slice nA' nn' nc', .slice lA' ln' lc'] TJ (0, 0)) wr).cell 0
              have n1 := (Blk.new (.cells #[.int .i64 k', .string (bs t'), .slice nA' nn' nc', .slice lA' ln' lc'] TJ (0, 0)) wr).cell 1
              have n2 := (Blk.new (.cells #[.int .i64 k', .string (bs t'), .slice nA' nn' nc', .slice lA' ln' lc'] TJ (0, 0)) wr).cell 2
              have n3 := (Blk.new (.cells #[.int .i64 k', .string (bs t'), .slice nA' nn' nc', .slice lA' ln' lc'] TJ (0, 0)) wr).cell 3
              have HDT := Lib.hid hdt
              have hzb := HZ.out
              have hsz := hb0.size
              subst hAe
              clear hJl hdt hJ hdj hvj hsj hagg hnn' hln' c0 c1 c2 c3
              go_wp2_with (go_at_call 13; (with_reducible refine HC.out.mono ?_); rintro e w5 ⟨rfl, b5⟩)
              exact ⟨⟨_, j + 1, by omega, rfl, rfl, Lib.hid (by rw [HDT.out]; omega), Lib.hid (HB.out.trans (Below.mono ((hba.trans (b5.mono hba.size))) (by omega)))⟩, by show n - ((j : Int) + 1).toNat < n - (j : Int).toNat; omega⟩
            · obtain rfl : j = n := by omega
              have htk : l.take j = l := List.take_of_length_le (by rw [HN.out]; exact Nat.le_refl _)
              rw [htk] at HZ
              have hz := HZ.out
              have he := HE.out
              clear htk
              go_wp2
              go_ret
              exact ⟨ret_i6 (by omega), HB.out⟩
      rw [hB]
      exact core k hk
    · have HE : Hid (D = 0) := Lib.hid (by rw [HDE.out, if_neg hk])
      have hk5 : (k == 5) = false := by rw [beq_eq_false_iff_ne]; exact fun h => hk (.inl h)
      have hk6 : (k == 6) = false := by rw [beq_eq_false_iff_ne]; exact fun h => hk (.inr h)
      have hk5c : (k != 5) = true := by rw [bne, hk5]; rfl
      have hk6c : (k != 6) = true := by rw [bne, hk6]; rfl
      have hk5b : ¬ k = 5 := fun h => hk (.inl h)
      have hk6b : ¬ k = 6 := fun h => hk (.inr h)
      clear hk
      go_enter Tryd.func13, Tryd.ntmps13
      go_wp2
      go_ret
      exact ⟨by rw [HE.out]; rfl, (Below.refl _ _).alloc (Nat.le_refl _) _⟩
end Go.Proofs.YtchgelfomnbpaaaDoor
namespace Go.Proofs.YtchgelfomnbpaaaDoor
open Go.RowKit
open Go.Lib

theorem jr_form {w : World} {T : Nat → Prop} {v : JV} {x0 x1 x2 x3 : Value} (h : JR w T v (.agg #[x0, x1, x2, x3])) : ∃ k s nA nn nc lA ln lc, x0 = .int .i64 k ∧ x1 = .string s ∧ x2 = .slice nA nn nc ∧ x3 = .slice lA ln lc := by
  obtain ⟨k, t, ns, l⟩ := v
  rw [JR] at h
  obtain ⟨nA, nc, lA, lc, e, _, _⟩ := h
  injection e with e
  have e2 : x0 = .int .i64 k ∧ x1 = .string (bs t) ∧ x2 = .slice nA ns.length nc ∧ x3 = .slice lA l.length lc := by simpa using e
  exact ⟨k, _, nA, _, nc, lA, _, lc, e2.1, e2.2.1, e2.2.2.1, e2.2.2.2⟩
set_option maxRecDepth 100000 in
set_option maxHeartbeats 4000000 in
theorem rsame_any (T T' : Nat → Prop) : ∀ (N : Nat) (v : JV) (x y : Value) (w : World), sizeJ v ≤ N → N ≤ 1000000000 → JR w T v x → JR w T' v y → Calls Tryd.prog 12 #[x, y] w fun e w' => e = .returned (.bool true) ∧ Below w.heap.size w w'
  | 0, .mk k t ns l, x, y, w, h, _, _, _ => by rw [sizeJ] at h; omega
  | N + 1, .mk k t ns l, x, y, w, hN, hNb, hJ, hJ' => by
    have IH := Lib.hid (rsame_any T T' N)
    rw [JR] at hJ hJ'
    obtain ⟨nA, nc, lA, lc, rfl, hn1, hl1⟩ := hJ
    obtain ⟨nA', nc', lA', lc', rfl, hn2, hl2⟩ := hJ'
    rw [sizeJ] at hN
    have hnm : ns.length ≤ 1000000000 := by omega
    obtain ⟨nn, hnn⟩ : ∃ n, ns.length = n := ⟨_, rfl⟩
    obtain ⟨n, hn⟩ : ∃ n, l.length = n := ⟨_, rfl⟩
    rw [hnn, hn]
    rw [hnn] at hnm
    have hn9 : n ≤ 1000000000 := by rw [← hn]; have := len_sizes l; omega
    have HN := Lib.hid hn
    have HNM := Lib.hid hnn
    have HNN := Lib.hid hN
    have HL1 := Lib.hid hl1
    have HL2 := Lib.hid hl2
    have HS1 := Lib.hid hn1
    have HS2 := Lib.hid hn2
    obtain ⟨S0, hS0⟩ : ∃ s, bs t = s := ⟨_, rfl⟩
    rw [hS0]
    have te0 : (S0.toList == S0.toList) = true := by simp
    clear hl1 hl2 hn1 hn2 hN hn hnn hS0
    obtain ⟨B, hB⟩ : ∃ B, w.heap.size = B := ⟨_, rfl⟩
    obtain ⟨W1, hW1⟩ : ∃ V, w.alloc (.cells #[.int .i64 k, .string S0, .slice nA nn nc, .slice lA n lc] TJ) = V := ⟨_, rfl⟩
    have hbx1 := Blk.new (.cells #[.int .i64 k, .string S0, .slice nA nn nc, .slice lA n lc] TJ (0, 0)) w
    have hb1 : Below B w W1 := by rw [← hW1, ← hB]; exact (Below.refl _ _).alloc (Nat.le_refl _) _
    have hs1 : W1.heap.size = B + 1 := by rw [← hW1, ← hB]; simp
    rw [hW1, hB] at hbx1
    obtain ⟨W2, hW2⟩ : ∃ V, W1.alloc (.cells #[.int .i64 k, .string S0, .slice nA' nn nc', .slice lA' n lc'] TJ) = V := ⟨_, rfl⟩
    have hbx2 := Blk.new (.cells #[.int .i64 k, .string S0, .slice nA' nn nc', .slice lA' n lc'] TJ (0, 0)) W1
    have hb2 : Below (B + 1) W1 W2 := by rw [← hW2, ← hs1]; exact (Below.refl _ _).alloc (Nat.le_refl _) _
    have hs2 : W2.heap.size = B + 2 := by rw [← hW2]; simp; omega
    rw [hW2, hs1] at hbx2
    have hbx1' : Blk B (.cells #[.int .i64 k, .string S0, .slice nA nn nc, .slice lA n lc] TJ (0, 0)) W2 := (Off.of_below (by rw [hs1]; exact hb2)).blk hbx1 (fun h => h)
    have HBW : Hid (Below B w W2) := Lib.hid (hb1.trans (hb2.mono (Nat.le_succ B)))
    have e0 : W2.cell? ⟨B, 0, none⟩ = some (.int .i64 k) := hbx1'.cell 0
    have e1 : W2.cell? ⟨B, 1, none⟩ = some (.string S0) := hbx1'.cell 1
    have f0 : W2.cell? ⟨B + 1, 0, none⟩ = some (.int .i64 k) := hbx2.cell 0
    have f1 : W2.cell? ⟨B + 1, 1, none⟩ = some (.string S0) := hbx2.cell 1
    have e2 : W2.cell? ⟨B, 2, none⟩ = some (.slice nA nn nc) := hbx1'.cell 2
    have e3 : W2.cell? ⟨B, 3, none⟩ = some (.slice lA n lc) := hbx1'.cell 3
    have f2 : W2.cell? ⟨B + 1, 2, none⟩ = some (.slice nA' nn nc') := hbx2.cell 2
    have f3 : W2.cell? ⟨B + 1, 3, none⟩ = some (.slice lA' n lc') := hbx2.cell 3
    have HE : Hid (∀ V, Below W2.heap.size W2 V → V.cell? ⟨B, 2, none⟩ = some (.slice nA nn nc) ∧ V.cell? ⟨B, 3, none⟩ = some (.slice lA n lc) ∧ V.cell? ⟨B + 1, 2, none⟩ = some (.slice nA' nn nc') ∧ V.cell? ⟨B + 1, 3, none⟩ = some (.slice lA' n lc')) := Lib.hid (fun V hV =>
      ⟨(hV.cell (p := ⟨B, 2, none⟩) (by show B < _; omega)).trans e2, (hV.cell (p := ⟨B, 3, none⟩) (by show B < _; omega)).trans e3, (hV.cell (p := ⟨B + 1, 2, none⟩) (by show B + 1 < _; omega)).trans f2, (hV.cell (p := ⟨B + 1, 3, none⟩) (by show B + 1 < _; omega)).trans f3⟩)
    have HW1 := Lib.hid hW1
    have HW2 := Lib.hid hW2
    clear hbx1 hbx2 hbx1' hb1 hb2
    go_enter Tryd.func12, Tryd.ntmps12
    go_wp2
    clear e0 e1 e2 e3 f0 f1 f2 f3
    go_loopw [40] (fun i wr => ∃ j : Nat, j ≤ nn ∧ i = .int .i64 j ∧ Hid (Below W2.heap.size W2 wr)) (fun i _ => nn - (RowKit.intOf i).toNat)
    case atStart => exact ⟨0, Nat.zero_le _, rfl, Lib.hid (Below.refl _ _)⟩
    case round =>
      obtain ⟨j, hj, rfl, HB⟩ := hrel
      obtain ⟨e2, e3, f2, f3⟩ := HE.out wr HB.out
      by_cases hjn : j < nn
      · have hjl : j < ns.length := by rw [HNM.out]; exact hjn
        obtain ⟨b, off, hAe, _, hbw, hc⟩ := HS1.out (by omega)
        obtain ⟨b', off', hAe', _, hbw', hc'⟩ := HS2.out (by omega)
        have hb0 : Below w.heap.size w wr := by rw [hB]; exact HBW.out.trans (HB.out.mono (by omega))
        have y0 := (hb0.cell (p := ⟨b, off + j, none⟩) hbw).trans (hc j hjl)
        have y1 := (hb0.cell (p := ⟨b', off' + j, none⟩) hbw').trans (hc' j hjl)
        obtain ⟨S, hS⟩ : ∃ s, bs ns[j] = s := ⟨_, rfl⟩
        rw [hS] at y0 y1
        have te : (S.toList == S.toList) = true := by simp
        have i0' : (0 : Int) ≤ (j : Int) := by omega
        have i1' : (j : Int) < (nn : Int) := by omega
        subst hAe hAe'
        clear hc hc' hS hb0
        go_wp2
        go_quiet (fail)
        go_wp2
        exact ⟨⟨j + 1, by omega, rfl, Lib.hid (below_drewN HB.out _)⟩, by show nn - ((j : Int) + 1).toNat < nn - (j : Int).toNat; omega⟩
      · obtain rfl : j = nn := by omega
        obtain ⟨V1, hV1⟩ : ∃ V, V = wr := ⟨_, rfl⟩
        subst hV1
        go_wp2
        go_loopw [58] (fun i wr => ∃ i2 : Nat, i2 ≤ n ∧ i = .int .i64 i2 ∧ Hid (Below W2.heap.size W2 wr)) (fun i _ => n - (RowKit.intOf i).toNat)
        case atStart => exact ⟨0, Nat.zero_le _, rfl, HB⟩
        case round =>
          clear HB e2 e3 f2 f3
          obtain ⟨i2, hi2, rfl, HB⟩ := hrel
          obtain ⟨e2, e3, f2, f3⟩ := HE.out wr HB.out
          by_cases hin : i2 < n
          · have hjl : i2 < l.length := by rw [HN.out]; exact hin
            obtain ⟨b, off, hAe, _, hbw, hJl⟩ := HL1.out (by omega)
            obtain ⟨b', off', hAe', _, hbw', hJl'⟩ := HL2.out (by omega)
            obtain ⟨x0, x1, x2, x3, c0, c1, c2, c3, hJ⟩ := hJl.at i2 hjl
            obtain ⟨z0, z1, z2, z3, d0, d1, d2, d3, hJ'⟩ := hJl'.at i2 hjl
            have hb0 : Below w.heap.size w wr := by rw [hB]; exact HBW.out.trans (HB.out.mono (by omega))
            have hbd : Below wr.heap.size wr wr.drew := Kept.drew (show Kept wr wr from Below.refl _ _)
            have y0 : wr.drew.cell? ⟨b, off + i2 * 4, none⟩ = some x0 := (hb0.cell (p := ⟨b, off + i2 * 4, none⟩) hbw).trans c0
            have y1 : wr.drew.cell? ⟨b, off + i2 * 4 + 1, none⟩ = some x1 := (hb0.cell (p := ⟨b, off + i2 * 4 + 1, none⟩) hbw).trans c1
            have y2 : wr.drew.cell? ⟨b, off + i2 * 4 + 2, none⟩ = some x2 := (hb0.cell (p := ⟨b, off + i2 * 4 + 2, none⟩) hbw).trans c2
            have y3 : wr.drew.cell? ⟨b, off + i2 * 4 + 3, none⟩ = some x3 := (hb0.cell (p := ⟨b, off + i2 * 4 + 3, none⟩) hbw).trans c3
            have u0 : wr.drew.cell? ⟨b', off' + i2 * 4, none⟩ = some z0 := (hb0.cell (p := ⟨b', off' + i2 * 4, none⟩) hbw').trans d0
            have u1 : wr.drew.cell? ⟨b', off' + i2 * 4 + 1, none⟩ = some z1 := (hb0.cell (p := ⟨b', off' + i2 * 4 + 1, none⟩) hbw').trans d1
            have u2 : wr.drew.cell? ⟨b', off' + i2 * 4 + 2, none⟩ = some z2 := (hb0.cell (p := ⟨b', off' + i2 * 4 + 2, none⟩) hbw').trans d2
            have u3 : wr.drew.cell? ⟨b', off' + i2 * 4 + 3, none⟩ = some z3 := (hb0.cell (p := ⟨b', off' + i2 * 4 + 3, none⟩) hbw').trans d3
            have g2 : wr.drew.cell? ⟨B, 3, none⟩ = some (.slice lA n lc) := e3
            have g3 : wr.drew.cell? ⟨B + 1, 3, none⟩ = some (.slice lA' n lc') := f3
            have HC : Hid (Calls Tryd.prog 12 #[.agg #[x0, x1, x2, x3], .agg #[z0, z1, z2, z3]] wr.drew fun e w' => e = .returned (.bool true) ∧ Below wr.drew.heap.size wr.drew w') := Lib.hid (IH.out l[i2] _ _ _ (by have := sizes_at l i2 hjl; have := HNN.out; omega) (by omega) ((hJ.below hb0).below hbd) ((hJ'.below hb0).below hbd))
            have i0' : (0 : Int) ≤ (i2 : Int) := by omega
            have i1' : (i2 : Int) < (n : Int) := by omega
            subst hAe hAe'
            clear hJl hJl' hJ hJ' hb0 c0 c1 c2 c3 d0 d1 d2 d3 e2 e3 f2 f3
            go_wp2
            go_region_with (go_at_call 12; (with_reducible refine HC.out.mono ?_); rintro e w5 ⟨rfl, b5⟩)
            all_goals go_wp2
            all_goals exact ⟨⟨i2 + 1, by omega, rfl, Lib.hid ((HB.out.trans (hbd.mono HB.out.size)).trans (b5.mono (Nat.le_trans HB.out.size hbd.size)))⟩, by show n - ((i2 : Int) + 1).toNat < n - (i2 : Int).toNat; omega⟩
          · obtain rfl : i2 = n := by omega
            go_wp2
            go_ret
            exact ⟨rfl, by rw [hB]; exact HBW.out.trans (HB.out.mono (by omega))⟩
end Go.Proofs.YtchgelfomnbpaaaDoor
