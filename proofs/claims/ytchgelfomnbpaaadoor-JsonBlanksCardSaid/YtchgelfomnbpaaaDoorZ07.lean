/-
  Of the proofs of layer 7 (values of JSON): the parts JG JX PShelf PA. No conditions.
-/
import Derived.Test.YtchgelfomnbpaaaDoorZ06
import Derived.Test.YtchgelfomnbpaaaDoorZ05
import Derived.Shelf.Small.Wraps
import Derived.Shelf.Small.Strs
import Derived.Shelf.Strings.SlTrimAscii
import Derived.Shelf.Strconv.Clone
import Derived.Test.YtchgelfomnbpaaaDoorProg
namespace Go.Proofs.YtchgelfomnbpaaaDoor
open Go.RowKit
open Go.Lib

abbrev TJ : TypeId := 28
/-- A slice that reads as texts, in blocks of T. -/
def RTx (w : World) (T : Nat → Prop) (A : Option Addr) (l : List Bt) : Prop :=
  0 < l.length → ∃ b off, A = some ⟨b, off, none⟩ ∧ T b ∧ b < w.heap.size ∧ ∀ j (h : j < l.length), w.cell? ⟨b, off + j, none⟩ = some (.string (bs l[j]))
mutual
/-- A value of Go that reads as this value of JSON, its lists in blocks of T. -/
def JR (w : World) (T : Nat → Prop) : JV → Value → Prop
  | .mk k t ns l, v => ∃ nA nc lA lc, v = .agg #[.int .i64 k, .string (bs t), .slice nA ns.length nc, .slice lA l.length lc] ∧ RTx w T nA ns ∧ (0 < l.length → ∃ b off, lA = some ⟨b, off, none⟩ ∧ T b ∧ b < w.heap.size ∧ JRl w T l b off)
/-- Cells that read as these values. -/
def JRl (w : World) (T : Nat → Prop) : List JV → Nat → Nat → Prop
  | [], _, _ => True
  | v :: l, b, off => (∃ x0 x1 x2 x3, w.cell? ⟨b, off, none⟩ = some x0 ∧ w.cell? ⟨b, off + 1, none⟩ = some x1 ∧ w.cell? ⟨b, off + 2, none⟩ = some x2 ∧ w.cell? ⟨b, off + 3, none⟩ = some x3 ∧ JR w T v (.agg #[x0, x1, x2, x3])) ∧ JRl w T l b (off + 4)
end
theorem RTx.off {F T : Nat → Prop} {w w' : World} {A : Option Addr} {l : List Bt} (h : RTx w T A l) (ho : Off F w w') (hF : ∀ b, T b → ¬ F b) : RTx w' T A l := fun h0 => by
  obtain ⟨b, off, e, ht, hb, hc⟩ := h h0
  exact ⟨b, off, e, ht, Nat.lt_of_lt_of_le hb ho.size, fun j hj => ho.cell (hc j hj) (hF b ht)⟩
mutual
theorem JR.off {F T : Nat → Prop} {w w' : World} (ho : Off F w w') (hF : ∀ b, T b → ¬ F b) : ∀ (v : JV) (x : Value), JR w T v x → JR w' T v x
  | .mk k t ns l, x, h => by
    rw [JR] at h ⊢
    obtain ⟨nA, nc, lA, lc, e, h1, h2⟩ := h
    refine ⟨nA, nc, lA, lc, e, h1.off ho hF, fun h0 => ?_⟩
    obtain ⟨b, off, e2, ht, hb, hl⟩ := h2 h0
    exact ⟨b, off, e2, ht, Nat.lt_of_lt_of_le hb ho.size, JRl.off ho hF l b off (hF b ht) hl⟩
theorem JRl.off {F T : Nat → Prop} {w w' : World} (ho : Off F w w') (hF : ∀ b, T b → ¬ F b) : ∀ (l : List JV) (b off : Nat), ¬ F b → JRl w T l b off → JRl w' T l b off
  | [], b, off, _, _ => by rw [JRl]; trivial
  | v :: l, b, off, hb, h => by
    rw [JRl] at h ⊢
    obtain ⟨⟨x0, x1, x2, x3, c0, c1, c2, c3, hv⟩, hl⟩ := h
    exact ⟨⟨x0, x1, x2, x3, ho.cell c0 hb, ho.cell c1 hb, ho.cell c2 hb, ho.cell c3 hb, JR.off ho hF v _ hv⟩, JRl.off ho hF l b (off + 4) hb hl⟩
end
theorem JR.below {T : Nat → Prop} {w w' : World} {v : JV} {x : Value} (h : JR w T v x) (hb : Below w.heap.size w w') : JR w' T v x := JR.off (Off.of_below hb) (fun _ _ h => h) v x h
theorem JRl.at {w : World} {T : Nat → Prop} : ∀ {l : List JV} {b off : Nat}, JRl w T l b off → ∀ j (h : j < l.length), ∃ x0 x1 x2 x3, w.cell? ⟨b, off + j * 4, none⟩ = some x0 ∧ w.cell? ⟨b, off + j * 4 + 1, none⟩ = some x1 ∧ w.cell? ⟨b, off + j * 4 + 2, none⟩ = some x2 ∧ w.cell? ⟨b, off + j * 4 + 3, none⟩ = some x3 ∧ JR w T l[j] (.agg #[x0, x1, x2, x3])
  | [], b, off, _, j, h => absurd h (Nat.not_lt_zero _)
  | v :: l, b, off, h, 0, _ => by
    rw [JRl] at h
    simpa using h.1
  | v :: l, b, off, h, j + 1, hj => by
    rw [JRl] at h
    have := JRl.at h.2 j (by simpa using hj)
    have e : off + 4 + j * 4 = off + (j + 1) * 4 := by omega
    rw [e] at this
    exact this
mutual
def sizeJ : JV → Nat
  | .mk _ _ ns l => sizesJ l + ns.length + 1
def sizesJ : List JV → Nat
  | [] => 0
  | v :: l => sizeJ v + sizesJ l
end
theorem len_sizes : ∀ l : List JV, l.length ≤ sizesJ l
  | [] => by simp
  | .mk k t ns l' :: l => by
    have := len_sizes l
    rw [sizesJ, sizeJ, List.length_cons]
    omega
theorem sizes_at : ∀ (l : List JV) (j : Nat) (h : j < l.length), sizeJ l[j] ≤ sizesJ l
  | v :: l, 0, _ => by rw [sizesJ]; simp
  | v :: l, j + 1, h => by
    have := sizes_at l j (by simpa using h)
    rw [sizesJ]
    simp only [List.getElem_cons_succ]
    omega
theorem depths_take : ∀ (l : List JV) (j : Nat) (h : j < l.length), depthsJ (l.take (j + 1)) = max (depthsJ (l.take j)) (depthJ l[j])
  | v :: l, 0, _ => by
    simp only [List.take_succ_cons, List.take_zero, List.getElem_cons_zero, depthsJ]
    omega
  | v :: l, j + 1, h => by
    have := depths_take l j (by simpa using h)
    rw [List.take_succ_cons, List.take_succ_cons, depthsJ, depthsJ, this]
    simp only [List.getElem_cons_succ]
    omega
theorem depths_le : ∀ (l : List JV) (j : Nat), depthsJ (l.take j) ≤ depthsJ l
  | [], j => by simp
  | v :: l, 0 => by simp only [List.take_zero]; rw [depthsJ]; omega
  | v :: l, j + 1 => by
    have := depths_le l j
    rw [List.take_succ_cons, depthsJ, depthsJ]
    omega
set_option maxRecDepth 100000 in
set_option maxHeartbeats 2000000 in
theorem rdepth_any (T : Nat → Prop) : ∀ (N : Nat) (v : JV) (x : Value) (w : World), sizeJ v ≤ N → N ≤ 1000000000 → JR w T v x → depthJ v ≤ 1000000000 → Calls Tryd.prog 14 #[x] w fun e w' => e = .returned (.int .i64 (depthJ v)) ∧ Below w.heap.size w w'
  | 0, .mk k t ns l, x, w, h, _, _, _ => by rw [sizeJ] at h; omega
  | N + 1, .mk k t ns l, x, w, hN, hNb, hJ, hd => by
    have IH := Lib.hid (rdepth_any T N)
    rw [JR] at hJ
    obtain ⟨nA, nc, lA, lc, rfl, _, hl⟩ := hJ
    rw [sizeJ] at hN
    obtain ⟨nn, hnn⟩ : ∃ n, ns.length = n := ⟨_, rfl⟩
    obtain ⟨n, hn⟩ : ∃ n, l.length = n := ⟨_, rfl⟩
    rw [hnn, hn]
    have hn9 : n ≤ 1000000000 := by rw [← hn]; have := len_sizes l; omega
    have HN := Lib.hid hn
    have HNN := Lib.hid hN
    have HL := Lib.hid hl
    have HD := Lib.hid hd
    obtain ⟨D, hD⟩ : ∃ D, depthJ (.mk k t ns l) = D := ⟨_, rfl⟩
    have HDE := Lib.hid (show D = if k = 5 ∨ k = 6 then depthsJ l + 1 else 0 by rw [← hD, depthJ])
    rw [hD] at hd HD ⊢
    clear hl hN hn hnn hD
    by_cases hk : k = 5 ∨ k = 6
    · have HE : Hid (D = depthsJ l + 1) := Lib.hid (by rw [HDE.out, if_pos hk])
      obtain ⟨B, hB⟩ : ∃ B, w.heap.size = B := ⟨_, rfl⟩
      have core : ∀ kk : Int, kk = 5 ∨ kk = 6 → Calls Tryd.prog 14 #[.agg #[.int .i64 kk, .string (bs t), .slice nA nn nc, .slice lA n lc]] w fun e w' => e = .returned (.int .i64 D) ∧ Below B w w' := by
        intro kk hkk
        clear hk
        rcases hkk with rfl | rfl
        · go_enter Tryd.func14, Tryd.ntmps14
          go_wp2
          have HB1 : Hid (Below B w (w.alloc (.cells #[.int .i64 5, .string (bs t), .slice nA nn nc, .slice lA n lc] TJ))) := Lib.hid (by rw [← hB]; exact (Below.refl _ _).alloc (Nat.le_refl _) _)
          go_loopw [3, 17] (fun m i wr => ∃ (z : Int) (j : Nat), j ≤ n ∧ i = .int .i64 j ∧ m = .int .i64 z ∧ Hid (z = depthsJ (l.take j)) ∧ Hid (Below B w wr)) (fun _ i _ => n - (RowKit.intOf i).toNat)
          case atStart => exact ⟨0, 0, Nat.zero_le _, rfl, rfl, Lib.hid (by rw [List.take_zero, depthsJ]; rfl), HB1⟩
          case round =>
            clear HB1
            obtain ⟨z, j, hj, rfl, rfl, HZ, HB⟩ := hrel
            by_cases hjn : j < n
            · have hjl : j < l.length := by rw [HN.out]; exact hjn
              obtain ⟨b, off, hAe, hT, hbw, hJl⟩ := HL.out (by omega)
              obtain ⟨x0, x1, x2, x3, c0, c1, c2, c3, hJ⟩ := hJl.at j hjl
              obtain ⟨vj, hvj⟩ : ∃ v, l[j] = v := ⟨_, rfl⟩
              rw [hvj] at hJ
              have hsj : sizeJ vj ≤ N := by rw [← hvj]; have := sizes_at l j hjl; have := HNN.out; omega
              obtain ⟨k', t', ns', l'⟩ := vj
              have hJ' := hJ
              rw [JR] at hJ'
              obtain ⟨nA', nc', lA', lc', hagg, _, _⟩ := hJ'
              obtain ⟨nn', hnn'⟩ : ∃ x, ns'.length = x := ⟨_, rfl⟩
              obtain ⟨ln', hln'⟩ : ∃ x, l'.length = x := ⟨_, rfl⟩
              rw [hnn', hln'] at hagg
              obtain ⟨rfl, rfl, rfl, rfl⟩ : x0 = .int .i64 k' ∧ x1 = .string (bs t') ∧ x2 = .slice nA' nn' nc' ∧ x3 = .slice lA' ln' lc' := by
                injection hagg with h
                simpa using h
              have hb0 : Below w.heap.size w wr := by rw [hB]; exact HB.out
              have y0 := (hb0.cell (p := ⟨b, off + j * 4, none⟩) hbw).trans c0
              have y1 := (hb0.cell (p := ⟨b, off + j * 4 + 1, none⟩) hbw).trans c1
              have y2 := (hb0.cell (p := ⟨b, off + j * 4 + 2, none⟩) hbw).trans c2
              have y3 := (hb0.cell (p := ⟨b, off + j * 4 + 3, none⟩) hbw).trans c3
              have hba : Below wr.heap.size wr (wr.alloc (.cells #[.int .i64 k', .string (bs t'), .slice nA' nn' nc', .slice lA' ln' lc'] TJ)) := (Below.refl _ _).alloc (Nat.le_refl _) _
              have hdt := depths_take l j hjl
              have hdl := depths_le l (j + 1)
              rw [hvj] at hdt
              obtain ⟨dj, hdj⟩ : ∃ d, depthJ (.mk k' t' ns' l') = d := ⟨_, rfl⟩
              rw [hdj] at hdt
              have hdb : dj ≤ 1000000000 := by have := HE.out; omega
              have HC : Hid (Calls Tryd.prog 14 #[.agg #[.int .i64 k', .string (bs t'), .slice nA' nn' nc', .slice lA' ln' lc']] (wr.alloc (.cells #[.int .i64 k', .string (bs t'), .slice nA' nn' nc', .slice lA' ln' lc'] TJ)) fun e w' => e = .returned (.int .i64 dj) ∧ Below (wr.alloc (.cells #[.int .i64 k', .string (bs t'), .slice nA' nn' nc', .slice lA' ln' lc'] TJ)).heap.size (wr.alloc (.cells #[.int .i64 k', .string (bs t'), .slice nA' nn' nc', .slice lA' ln' lc'] TJ)) w') := Lib.hid (by
                have := IH.out (.mk k' t' ns' l') (.agg #[.int .i64 k', .string (bs t'), .slice nA' nn' nc', .slice lA' ln' lc']) (wr.alloc (.cells #[.int .i64 k', .string (bs t'), .slice nA' nn' nc', .slice lA' ln' lc'] TJ)) hsj (by omega) ((hJ.below hb0).below hba) (by rw [hdj]; exact hdb)
                rw [hdj] at this
                exact this)
              have n0 := (Blk.new (.cells #[.int .i64 k', .string (bs t'), .slice nA' nn' nc', .slice lA' ln' lc'] TJ (0, 0)) wr).cell 0
              have n1 := (Blk.new (.cells #[.int .i64 k', .string (bs t'), .slice nA' nn' nc', .slice lA' ln' lc'] TJ (0, 0)) wr).cell 1
              have n2 := (Blk.new (.cells #[.int .i64 k', .string (bs t'), .slice nA' nn' nc', .slice lA' ln' lc'] TJ (0, 0)) wr).cell 2
              have n3 := (Blk.new (.cells #[.int .i64 k', .string (bs t'), .slice nA' nn' nc', .slice lA' ln' lc'] TJ (0, 0)) wr).cell 3
              have HDT := Lib.hid hdt
              have hzb := HZ.out
              have hsz := hb0.size
              subst hAe
              clear hJl hdt hJ hdj hvj hsj hagg hnn' hln' c0 c1 c2 c3
              go_wp2_with (go_at_call 14; (with_reducible refine HC.out.mono ?_); rintro e w5 ⟨rfl, b5⟩)
              exact ⟨⟨_, j + 1, by omega, rfl, rfl, Lib.hid (by rw [HDT.out]; omega), Lib.hid (HB.out.trans (Below.mono ((hba.trans (b5.mono hba.size))) (by omega)))⟩, by show n - ((j : Int) + 1).toNat < n - (j : Int).toNat; omega⟩
            · obtain rfl : j = n := by omega
              have htk : l.take j = l := List.take_of_length_le (by rw [HN.out]; exact Nat.le_refl _)
              rw [htk] at HZ
              have hz := HZ.out
              have he := HE.out
              clear htk
              go_wp2
              go_ret
              exact ⟨ret_i6 (by omega), HB.out⟩
        · go_enter Tryd.func14, Tryd.ntmps14
          go_wp2
          have HB1 : Hid (Below B w (w.alloc (.cells #[.int .i64 6, .string (bs t), .slice nA nn nc, .slice lA n lc] TJ))) := Lib.hid (by rw [← hB]; exact (Below.refl _ _).alloc (Nat.le_refl _) _)
          go_loopw [3, 17] (fun m i wr => ∃ (z : Int) (j : Nat), j ≤ n ∧ i = .int .i64 j ∧ m = .int .i64 z ∧ Hid (z = depthsJ (l.take j)) ∧ Hid (Below B w wr)) (fun _ i _ => n - (RowKit.intOf i).toNat)
          case atStart => exact ⟨0, 0, Nat.zero_le _, rfl, rfl, Lib.hid (by rw [List.take_zero, depthsJ]; rfl), HB1⟩
          case round =>
            clear HB1
            obtain ⟨z, j, hj, rfl, rfl, HZ, HB⟩ := hrel
            by_cases hjn : j < n
            · have hjl : j < l.length := by rw [HN.out]; exact hjn
              obtain ⟨b, off, hAe, hT, hbw, hJl⟩ := HL.out (by omega)
              obtain ⟨x0, x1, x2, x3, c0, c1, c2, c3, hJ⟩ := hJl.at j hjl
              obtain ⟨vj, hvj⟩ : ∃ v, l[j] = v := ⟨_, rfl⟩
              rw [hvj] at hJ
              have hsj : sizeJ vj ≤ N := by rw [← hvj]; have := sizes_at l j hjl; have := HNN.out; omega
              obtain ⟨k', t', ns', l'⟩ := vj
              have hJ' := hJ
              rw [JR] at hJ'
              obtain ⟨nA', nc', lA', lc', hagg, _, _⟩ := hJ'
              obtain ⟨nn', hnn'⟩ : ∃ x, ns'.length = x := ⟨_, rfl⟩
              obtain ⟨ln', hln'⟩ : ∃ x, l'.length = x := ⟨_, rfl⟩
              rw [hnn', hln'] at hagg
              obtain ⟨rfl, rfl, rfl, rfl⟩ : x0 = .int .i64 k' ∧ x1 = .string (bs t') ∧ x2 = .slice nA' nn' nc' ∧ x3 = .slice lA' ln' lc' := by
                injection hagg with h
                simpa using h
              have hb0 : Below w.heap.size w wr := by rw [hB]; exact HB.out
              have y0 := (hb0.cell (p := ⟨b, off + j * 4, none⟩) hbw).trans c0
              have y1 := (hb0.cell (p := ⟨b, off + j * 4 + 1, none⟩) hbw).trans c1
              have y2 := (hb0.cell (p := ⟨b, off + j * 4 + 2, none⟩) hbw).trans c2
              have y3 := (hb0.cell (p := ⟨b, off + j * 4 + 3, none⟩) hbw).trans c3
              have hba : Below wr.heap.size wr (wr.alloc (.cells #[.int .i64 k', .string (bs t'), .slice nA' nn' nc', .slice lA' ln' lc'] TJ)) := (Below.refl _ _).alloc (Nat.le_refl _) _
              have hdt := depths_take l j hjl
              have hdl := depths_le l (j + 1)
              rw [hvj] at hdt
              obtain ⟨dj, hdj⟩ : ∃ d, depthJ (.mk k' t' ns' l') = d := ⟨_, rfl⟩
              rw [hdj] at hdt
              have hdb : dj ≤ 1000000000 := by have := HE.out; omega
              have HC : Hid (Calls Tryd.prog 14 #[.agg #[.int .i64 k', .string (bs t'), .slice nA' nn' nc', .slice lA' ln' lc']] (wr.alloc (.cells #[.int .i64 k', .string (bs t'), .slice nA' nn' nc', .slice lA' ln' lc'] TJ)) fun e w' => e = .returned (.int .i64 dj) ∧ Below (wr.alloc (.cells #[.int .i64 k', .string (bs t'), .slice nA' nn' nc', .slice lA' ln' lc'] TJ)).heap.size (wr.alloc (.cells #[.int .i64 k', .string (bs t'), .slice nA' nn' nc', .slice lA' ln' lc'] TJ)) w') := Lib.hid (by
                have := IH.out (.mk k' t' ns' l') (.agg #[.int .i64 k', .string (bs t'), .slice nA' nn' nc', .slice lA' ln' lc']) (wr.alloc (.cells #[.int .i64 k', .string (bs t'), .slice nA' nn' nc', .slice lA' ln' lc'] TJ)) hsj (by omega) ((hJ.below hb0).below hba) (by rw [hdj]; exact hdb)
                rw [hdj] at this
                exact this)
              have n0 := (Blk.new (.cells #[.int .i64 k', .string (bs t'), .slice nA' nn' nc', .slice lA' ln' lc'] TJ (0, 0)) wr).cell 0
              have n1 := (Blk.new (.cells #[.int .i64 k', .string (bs t'), .slice nA' nn' nc', .slice lA' ln' lc'] TJ (0, 0)) wr).cell 1
              have n2 := (Blk.new (.cells #[.int .i64 k', .string (bs t'), .slice nA' nn' nc', .slice lA' ln' lc'] TJ (0, 0)) wr).cell 2
              have n3 := (Blk.new (.cells #[.int .i64 k', .string (bs t'), .slice nA' nn' nc', .slice lA' ln' lc'] TJ (0, 0)) wr).cell 3
              have HDT := Lib.hid hdt
              have hzb := HZ.out
              have hsz := hb0.size
              subst hAe
              clear hJl hdt hJ hdj hvj hsj hagg hnn' hln' c0 c1 c2 c3
              go_wp2_with (go_at_call 14; (with_reducible refine HC.out.mono ?_); rintro e w5 ⟨rfl, b5⟩)
              exact ⟨⟨_, j + 1, by omega, rfl, rfl, Lib.hid (by rw [HDT.out]; omega), Lib.hid (HB.out.trans (Below.mono ((hba.trans (b5.mono hba.size))) (by omega)))⟩, by show n - ((j : Int) + 1).toNat < n - (j : Int).toNat; omega⟩
            · obtain rfl : j = n := by omega
              have htk : l.take j = l := List.take_of_length_le (by rw [HN.out]; exact Nat.le_refl _)
              rw [htk] at HZ
              have hz := HZ.out
              have he := HE.out
              clear htk
              go_wp2
              go_ret
              exact ⟨ret_i6 (by omega), HB.out⟩
      rw [hB]
      exact core k hk
    · have HE : Hid (D = 0) := Lib.hid (by rw [HDE.out, if_neg hk])
      have hk5 : (k == 5) = false := by rw [beq_eq_false_iff_ne]; exact fun h => hk (.inl h)
      have hk6 : (k == 6) = false := by rw [beq_eq_false_iff_ne]; exact fun h => hk (.inr h)
      have hk5c : (k != 5) = true := by rw [bne, hk5]; rfl
      have hk6c : (k != 6) = true := by rw [bne, hk6]; rfl
      have hk5b : ¬ k = 5 := fun h => hk (.inl h)
      have hk6b : ¬ k = 6 := fun h => hk (.inr h)
      clear hk
      go_enter Tryd.func14, Tryd.ntmps14
      go_wp2
      go_ret
      exact ⟨by rw [HE.out]; rfl, (Below.refl _ _).alloc (Nat.le_refl _) _⟩
end Go.Proofs.YtchgelfomnbpaaaDoor
namespace Go.Proofs.YtchgelfomnbpaaaDoor
open Go.Lib

def valX (depth : Nat) (s : Bt) : Except Int (JV × Bt) := valJ (2 * s.length + 1) depth s
def loopX : LoopF := fun depth obj ns vs s => loopJ (2 * s.length + 2) depth obj ns vs s
theorem valX_eq (depth : Nat) (s : Bt) : valX depth s = valS loopX depth s := by
  unfold valX
  rw [valJ_succ]
  exact valS_congr fun obj t ht => (fuelJ _ _).2 _ _ _ _ _ (by omega) (by omega)
theorem valX_len {depth : Nat} {s : Bt} {v : JV} {r : Bt} (h : valX depth s = .ok (v, r)) : r.length < s.length := (lenJ _).1 _ _ _ _ h
theorem loopX_len {depth : Nat} {obj : Bool} {ns : List Bt} {vs : List JV} {s : Bt} {v : JV} {r : Bt} (h : loopX depth obj ns vs s = .ok (v, r)) : r.length < s.length := (lenJ _).2 _ _ _ _ _ _ _ h
theorem loopX_eq (depth : Nat) (obj : Bool) (ns : List Bt) (vs : List JV) (s : Bt) : loopX depth obj ns vs s = loopS valX loopX depth obj ns vs s := by
  unfold loopX
  show loopJ (2 * s.length + 1 + 1) depth obj ns vs s = _
  rw [loopJ_succ]
  exact loopS_congr (fun t ht => (fuelJ _ _).1 _ _ (by omega) (by omega)) (fun t v r h => valX_len h) (fun ns vs t ht => (fuelJ _ _).2 _ _ _ _ _ (by omega) (by omega))
theorem parseX (b : Bt) : parseJ b = if 65536 < b.length then .error 72 else match valX 0 b with | .error e => .error e | .ok (v, r) => if blanksL r = [] then .ok v else .error 70 := by
  by_cases h : 65536 < b.length
  · rw [if_pos h]
    unfold parseJ
    rw [if_pos h]
  · rw [if_neg h, parse_at b (by omega) _ (Nat.le_refl _)]
    rfl
/-! ### Numbers, the program's way -/
def digF (s : Bt) : Option Bt := if dgL s = 0 then none else some (s.drop (dgL s))
def wholeF (s : Bt) : Option Bt := if s.head? = some 48 then some (s.drop 1) else digF s
def fracF (s : Bt) : Option Bt := if s.head? = some 46 then digF (s.drop 1) else some s
def expF (s : Bt) : Option Bt := if s.head? = some 101 ∨ s.head? = some 69 then digF (s.drop (1 + expSL (s.drop 1))) else some s
/-- What stands behind the number at the front. -/
def numF (s : Bt) : Option Bt := match wholeF (s.drop (signL s)) with | none => none | some r => match fracF r with | none => none | some r => expF r
theorem dg_at {s : Bt} : ∀ j, j < dgL s → ∃ c, s[j]? = some c ∧ isD 10 c = true := by
  intro j hj
  unfold dgL at hj
  have h1 : (s.takeWhile (isD 10))[j]? = some (s.takeWhile (isD 10))[j] := List.getElem?_eq_getElem hj
  refine ⟨(s.takeWhile (isD 10))[j], ?_, ?_⟩
  · have h2 : (s.takeWhile (isD 10) ++ s.dropWhile (isD 10))[j]? = some (s.takeWhile (isD 10))[j] := by
      rw [List.getElem?_append_left hj]
      exact h1
    rw [List.takeWhile_append_dropWhile] at h2
    exact h2
  · have := List.all_takeWhile (p := isD 10) (l := s)
    rw [List.all_eq_true] at this
    exact this _ (List.getElem_mem hj)
theorem digit_ne {c : UInt8} (h : isD 10 c = true) : c ≠ 46 ∧ c ≠ 101 ∧ c ≠ 69 ∧ c ≠ 45 ∧ c ≠ 44 ∧ c ≠ 93 ∧ c ≠ 125 ∧ isBl c = false := by
  obtain ⟨h1, h2⟩ := digit_bd h
  have ne : ∀ d : UInt8, (d.toNat < 48 ∨ 57 < d.toNat) → c ≠ d := fun d hd e => by subst e; omega
  refine ⟨ne _ (by decide), ne _ (by decide), ne _ (by decide), ne _ (by decide), ne _ (by decide), ne _ (by decide), ne _ (by decide), ?_⟩
  unfold isBl
  simp only [Bool.or_eq_false_iff, beq_eq_false_iff_ne]
  exact ⟨⟨⟨ne _ (by decide), ne _ (by decide)⟩, ne _ (by decide)⟩, ne _ (by decide)⟩
theorem num_two (s : Bt) : (numLen s ≠ 0 → numF s = some (s.drop (numLen s))) ∧ (numLen s = 0 → numF s = none ∨ ∃ c r, numF s = some (c :: r) ∧ isD 10 c = true) := by
  obtain ⟨i, hi⟩ : ∃ i, signL s = i := ⟨_, rfl⟩
  obtain ⟨u, hu⟩ : ∃ u, s.drop i = u := ⟨_, rfl⟩
  obtain ⟨n, hn⟩ : ∃ n, dgL u = n := ⟨_, rfl⟩
  have hF : numF s = match wholeF u with | none => none | some r => match fracF r with | none => none | some r => expF r := by
    unfold numF
    rw [hi, hu]
  have hL : numLen s = if n = 0 ∨ (u.head? = some 48 ∧ 1 < n) then 0 else match fracL (s.drop (i + n)) with
      | none => 0
      | some f => match expL (s.drop (i + n + f)) with
        | none => 0
        | some e => i + n + f + e := by
    unfold numLen
    dsimp only
    rw [hi, hu, hn]
    rfl
  have hdrop : ∀ k, s.drop (i + k) = u.drop k := fun k => by rw [← hu, List.drop_drop]
  by_cases h0 : n = 0
  · rw [if_pos (.inl h0)] at hL
    refine ⟨fun h => absurd hL h, fun _ => .inl ?_⟩
    have hh : u.head? ≠ some 48 := fun h => by
      cases u with
      | nil => cases h
      | cons c r =>
        have : c = 48 := Option.some.inj h
        subst this
        unfold dgL at hn
        rw [List.takeWhile_cons_of_pos (by decide)] at hn
        simp at hn
        omega
    rw [hF]
    unfold wholeF digF
    rw [if_neg hh, hn, if_pos h0]
  · by_cases h48 : u.head? = some 48 ∧ 1 < n
    · rw [if_pos (.inr h48)] at hL
      refine ⟨fun h => absurd hL h, fun _ => .inr ?_⟩
      obtain ⟨c, hc, hd⟩ := dg_at (s := u) 1 (by rw [hn]; exact h48.2)
      have hc' : ∃ r, u.drop 1 = c :: r := by
        cases u with
        | nil => cases hc
        | cons a t =>
          cases t with
          | nil => cases hc
          | cons b t =>
            refine ⟨t, ?_⟩
            have : b = c := by simpa using hc
            subst this
            rfl
      obtain ⟨r, hr⟩ := hc'
      obtain ⟨n1, n2, n3, _⟩ := digit_ne hd
      refine ⟨c, r, ?_, hd⟩
      rw [hF]
      unfold wholeF
      rw [if_pos h48.1, hr]
      dsimp only
      unfold fracF
      have e1 : ¬ (c :: r).head? = some 46 := fun h => n1 (Option.some.inj h)
      rw [if_neg e1]
      dsimp only
      unfold expF
      have e2 : ¬ ((c :: r).head? = some 101 ∨ (c :: r).head? = some 69) := fun h => h.elim (fun h => n2 (Option.some.inj h)) (fun h => n3 (Option.some.inj h))
      rw [if_neg e2]
    · rw [if_neg (fun h => h.elim h0 h48)] at hL
      have hw : wholeF u = some (u.drop n) := by
        unfold wholeF
        by_cases h : u.head? = some 48
        · rw [if_pos h]
          have : n = 1 := by
            have h1 : ¬ 1 < n := fun h1 => h48 ⟨h, h1⟩
            clear hL
            omega
          rw [this]
        · rw [if_neg h]
          unfold digF
          rw [hn, if_neg h0]
      rw [hw] at hF
      dsimp only at hF
      rw [hdrop] at hL
      obtain ⟨x, hx⟩ : ∃ x, u.drop n = x := ⟨_, rfl⟩
      rw [hx] at hF hL
      have hf : fracF x = (fracL x).map fun f => x.drop f := by
        unfold fracF fracL digF
        split
        · split
          · rfl
          · show _ = some (x.drop (dgL (x.drop 1) + 1))
            rw [List.drop_drop, Nat.add_comm]
        · rfl
      cases hfl : fracL x with
      | none =>
        rw [hfl] at hL hf
        rw [hf] at hF
        exact ⟨fun h => absurd hL h, fun _ => .inl hF⟩
      | some f =>
        rw [hfl] at hL hf
        rw [hf] at hF
        dsimp only [Option.map] at hF hL
        have hxd : s.drop (i + n + f) = x.drop f := by rw [Nat.add_assoc, hdrop, ← hx, List.drop_drop]
        rw [hxd] at hL
        obtain ⟨y, hy⟩ : ∃ y, x.drop f = y := ⟨_, rfl⟩
        rw [hy] at hF hL
        have he : expF y = (expL y).map fun e => y.drop e := by
          unfold expF expL digF
          split
          · split
            · rfl
            · show _ = some (y.drop (1 + expSL (y.drop 1) + dgL (y.drop (1 + expSL (y.drop 1)))))
              rw [List.drop_drop]
          · rfl
        cases hel : expL y with
        | none =>
          rw [hel] at hL he
          rw [he] at hF
          exact ⟨fun h => absurd hL h, fun _ => .inl hF⟩
        | some e =>
          rw [hel] at hL he
          rw [he] at hF
          dsimp only [Option.map] at hF hL
          have hL2 : numLen s = i + n + f + e := hL
          refine ⟨fun _ => ?_, fun h => absurd (hL2.symm.trans h) (by omega)⟩
          rw [hF, hL, ← hy, ← hxd, List.drop_drop]
theorem num_all (t : Bt) : (decide (t ≠ [] ∧ numLen t = t.length)) = (numF t == some []) := by
  obtain ⟨h1, h2⟩ := num_two t
  by_cases h : numLen t = 0
  · have hl : decide (t ≠ [] ∧ numLen t = t.length) = false := by
      refine decide_eq_false fun ⟨h3, h4⟩ => h3 ?_
      rw [h] at h4
      exact List.length_eq_zero_iff.1 h4.symm
    rw [hl]
    rcases h2 h with h2 | ⟨c, r, h2, _⟩ <;> rw [h2] <;> rfl
  · rw [h1 h]
    have hle := numLen_le t
    by_cases hl : numLen t = t.length
    · have : t ≠ [] := fun e => by subst e; exact h hl
      rw [decide_eq_true ⟨this, hl⟩, hl, List.drop_length]
      rfl
    · rw [decide_eq_false fun h => hl h.2]
      have : t.drop (numLen t) ≠ [] := fun e => by
        have := congrArg List.length e
        rw [List.length_drop] at this
        simp at this
        omega
      symm
      rw [beq_eq_false_iff_ne]
      exact fun e => this (Option.some.inj e)
end Go.Proofs.YtchgelfomnbpaaaDoor
namespace Go.Proofs.YtchgelfomnbpaaaDoor
open Go.Shelf Go.RowKit
def Tryd.lays103p_ren : Go.Shelf.Ren := ⟨fun | 103 => 67 | 206 => 97 | 210 => 87 | n => n, fun | 3 => 3 | 4 => 4 | 9 => 9 | 24 => 71 | n => n, fun | n => n⟩
theorem Tryd.lays103p : Go.Proofs.Lays.n103 Tryd.prog Tryd.lays103p_ren := {
  mixed := by kernel_rfl
  f103 := Tryd.func67.trans (congrArg some (by kernel_rfl))
  f206 := Tryd.func97.trans (congrArg some (by kernel_rfl))
  f210 := Tryd.func87.trans (congrArg some (by kernel_rfl))
  t3 := Tryd.underlying3
  a3 := Tryd.isAgg3
  z3 := Tryd.sizeOf3
  v3 := Tryd.zeroValue3
  t4 := Tryd.underlying4
  a4 := Tryd.isAgg4
  z4 := Tryd.sizeOf4
  v4 := Tryd.zeroValue4
  t9 := Tryd.underlying9
  a9 := Tryd.isAgg9
  z9 := Tryd.sizeOf9
  v9 := Tryd.zeroValue9
  t24 := Tryd.underlying71
  a24 := Tryd.isAgg71
  z24 := Tryd.sizeOf71
  v24 := Tryd.zeroValue71 }
def Tryd.lays101_ren : Go.Shelf.Ren := ⟨fun | 101 => 78 | 206 => 97 | 208 => 94 | n => n, fun | 3 => 3 | 4 => 4 | 9 => 9 | n => n, fun | n => n⟩
theorem Tryd.lays101 : Go.Proofs.Lays.n101 Tryd.prog Tryd.lays101_ren := {
  mixed := by kernel_rfl
  f101 := Tryd.func78.trans (congrArg some (by kernel_rfl))
  f206 := Tryd.func97.trans (congrArg some (by kernel_rfl))
  f208 := Tryd.func94.trans (congrArg some (by kernel_rfl))
  t3 := Tryd.underlying3
  a3 := Tryd.isAgg3
  z3 := Tryd.sizeOf3
  v3 := Tryd.zeroValue3
  t4 := Tryd.underlying4
  a4 := Tryd.isAgg4
  z4 := Tryd.sizeOf4
  v4 := Tryd.zeroValue4
  t9 := Tryd.underlying9
  a9 := Tryd.isAgg9
  z9 := Tryd.sizeOf9
  v9 := Tryd.zeroValue9 }
def Tryd.lays161_ren : Go.Shelf.Ren := ⟨fun | 119 => 104 | 137 => 95 | 151 => 92 | 152 => 100 | 161 => 56 | 197 => 91 | 217 => 101 | 224 => 105 | 225 => 106 | 227 => 72 | 228 => 90 | 231 => 71 | 233 => 73 | 235 => 74 | 260 => 99 | 266 => 107 | n => n, fun | 0 => 0 | 3 => 3 | 4 => 4 | 5 => 5 | 9 => 9 | 21 => 21 | 46 => 37 | 105 => 117 | 116 => 100 | 117 => 101 | 119 => 108 | 124 => 104 | 138 => 110 | 139 => 111 | n => n, fun | 3 => 0 | 4 => 1 | n => n⟩
theorem Tryd.lays161 : Go.Proofs.Lays.n161 Tryd.prog Tryd.lays161_ren := {
  mixed := by kernel_rfl
  f119 := Tryd.func104.trans (congrArg some (by kernel_rfl))
  f137 := Tryd.func95.trans (congrArg some (by kernel_rfl))
  f151 := Tryd.func92.trans (congrArg some (by kernel_rfl))
  f152 := Tryd.func100.trans (congrArg some (by kernel_rfl))
  f161 := Tryd.func56.trans (congrArg some (by kernel_rfl))
  f197 := Tryd.func91.trans (congrArg some (by kernel_rfl))
  f217 := Tryd.func101.trans (congrArg some (by kernel_rfl))
  f224 := Tryd.func105.trans (congrArg some (by kernel_rfl))
  f225 := Tryd.func106.trans (congrArg some (by kernel_rfl))
  f227 := Tryd.func72.trans (congrArg some (by kernel_rfl))
  f228 := Tryd.func90.trans (congrArg some (by kernel_rfl))
  f231 := Tryd.func71.trans (congrArg some (by kernel_rfl))
  f233 := Tryd.func73.trans (congrArg some (by kernel_rfl))
  f235 := Tryd.func74.trans (congrArg some (by kernel_rfl))
  f260 := Tryd.func99.trans (congrArg some (by kernel_rfl))
  f266 := Tryd.func107.trans (congrArg some (by kernel_rfl))
  t0 := Tryd.underlying0
  a0 := Tryd.isAgg0
  z0 := Tryd.sizeOf0
  v0 := Tryd.zeroValue0
  t3 := Tryd.underlying3
  a3 := Tryd.isAgg3
  z3 := Tryd.sizeOf3
  v3 := Tryd.zeroValue3
  t4 := Tryd.underlying4
  a4 := Tryd.isAgg4
  z4 := Tryd.sizeOf4
  v4 := Tryd.zeroValue4
  t5 := Tryd.underlying5
  a5 := Tryd.isAgg5
  z5 := Tryd.sizeOf5
  v5 := Tryd.zeroValue5
  t9 := Tryd.underlying9
  a9 := Tryd.isAgg9
  z9 := Tryd.sizeOf9
  v9 := Tryd.zeroValue9
  t21 := Tryd.underlying21
  a21 := Tryd.isAgg21
  z21 := Tryd.sizeOf21
  v21 := Tryd.zeroValue21
  t46 := Tryd.underlying37
  a46 := Tryd.isAgg37
  z46 := Tryd.sizeOf37
  v46 := Tryd.zeroValue37
  t105 := Tryd.underlying117
  a105 := Tryd.isAgg117
  z105 := Tryd.sizeOf117
  v105 := Tryd.zeroValue117
  t116 := Tryd.underlying100
  a116 := Tryd.isAgg100
  z116 := Tryd.sizeOf100
  t117 := Tryd.underlying101
  a117 := Tryd.isAgg101
  z117 := Tryd.sizeOf101
  v117 := Tryd.zeroValue101
  t119 := Tryd.underlying108
  a119 := Tryd.isAgg108
  z119 := Tryd.sizeOf108
  t124 := Tryd.underlying104
  a124 := Tryd.isAgg104
  z124 := Tryd.sizeOf104
  v124 := Tryd.zeroValue104
  t138 := Tryd.underlying110
  a138 := Tryd.isAgg110
  z138 := Tryd.sizeOf110
  v138 := Tryd.zeroValue110
  t139 := Tryd.underlying111
  a139 := Tryd.isAgg111
  z139 := Tryd.sizeOf111
  v139 := Tryd.zeroValue111
  g3 := by kernel_rfl
  g4 := by kernel_rfl }
def Tryd.lays137_ren : Go.Shelf.Ren := ⟨fun | 137 => 95 | 217 => 101 | 266 => 107 | n => n, fun | 3 => 3 | 5 => 5 | 9 => 9 | n => n, fun | n => n⟩
theorem Tryd.lays137 : Go.Proofs.Lays.n137 Tryd.prog Tryd.lays137_ren := {
  mixed := by kernel_rfl
  f137 := Tryd.func95.trans (congrArg some (by kernel_rfl))
  f217 := Tryd.func101.trans (congrArg some (by kernel_rfl))
  f266 := Tryd.func107.trans (congrArg some (by kernel_rfl))
  t3 := Tryd.underlying3
  a3 := Tryd.isAgg3
  z3 := Tryd.sizeOf3
  v3 := Tryd.zeroValue3
  t5 := Tryd.underlying5
  a5 := Tryd.isAgg5
  z5 := Tryd.sizeOf5
  v5 := Tryd.zeroValue5
  t9 := Tryd.underlying9
  a9 := Tryd.isAgg9
  z9 := Tryd.sizeOf9
  v9 := Tryd.zeroValue9 }
def Tryd.laysM316_ren : Go.Shelf.Ren := ⟨fun | 316 => 51 | n => n, fun | 0 => 0 | 3 => 3 | 4 => 4 | 5 => 5 | 9 => 9 | 37 => 22 | 127 => 80 | n => n, fun | n => n⟩
theorem Tryd.laysM316 : Go.Proofs.LaysM.n316 Tryd.prog Tryd.laysM316_ren := {
  mixed := by kernel_rfl
  f316 := Tryd.func51.trans (congrArg some (by kernel_rfl))
  t0 := Tryd.underlying0
  a0 := Tryd.isAgg0
  z0 := Tryd.sizeOf0
  v0 := Tryd.zeroValue0
  t3 := Tryd.underlying3
  a3 := Tryd.isAgg3
  z3 := Tryd.sizeOf3
  v3 := Tryd.zeroValue3
  t4 := Tryd.underlying4
  a4 := Tryd.isAgg4
  z4 := Tryd.sizeOf4
  v4 := Tryd.zeroValue4
  t9 := Tryd.underlying9
  a9 := Tryd.isAgg9
  z9 := Tryd.sizeOf9
  v9 := Tryd.zeroValue9
  t37 := Tryd.underlying22
  a37 := Tryd.isAgg22
  z37 := Tryd.sizeOf22
  v37 := Tryd.zeroValue22
  t127 := Tryd.underlying80
  a127 := Tryd.isAgg80
  z127 := Tryd.sizeOf80
  v127 := Tryd.zeroValue80
  t5 := Tryd.underlying5
  a5 := Tryd.isAgg5
  z5 := Tryd.sizeOf5
  v5 := Tryd.zeroValue5
  i0 := by kernel_rfl
  i3 := by kernel_rfl
  i4 := by kernel_rfl
  i5 := by kernel_rfl
  i9 := by kernel_rfl
  i37 := by kernel_rfl
  i127 := by kernel_rfl }
theorem libTrimPrefix (s p : ByteArray) (w : World) :
    Calls Tryd.prog 78 #[.string s, .string p] w fun e w' => e = .returned (.string ⟨(Lib.trimPrefix s.data.toList p.data.toList).toArray⟩) ∧ w' = w := Any.strings_TrimPrefix Tryd.lays101 s p w
theorem libTrimLeft (s cutset : ByteArray) (w : World) (hcs : cutset.size < 4294967281) (hascii : ∀ (j : Nat) b, cutset.data.toList[j]? = some b → b.toNat < 128) :
    Calls Tryd.prog 56 #[.string s, .string cutset] w fun e w' => e = .returned (.string ⟨(Lib.trimLeftS s.data.toList cutset.data.toList).toArray⟩) ∧ Below w.heap.size w w' := Any.strings_TrimLeft_laid Tryd.lays161 (by kernel_rfl) s cutset w hcs hascii
theorem libIndexByte (s : ByteArray) (c : Int) (w : World) : Calls Tryd.prog 95 #[.string s, .int .u8 c] w fun e w' => e = .returned (.int .i64 (Lib.indexByte s.data.toList c.toNat.toUInt8)) ∧ w' = w := Any.strings_IndexByte Tryd.lays137 s c w
theorem libCutPre (s p : ByteArray) (w : World) :
    Calls Tryd.prog 67 #[.string s, .string p] w fun e w' => e = .returned (.tuple #[.string ⟨(Lib.trimPrefix s.data.toList p.data.toList).toArray⟩, .bool (Lib.hasPrefix s.data.toList p.data.toList)]) ∧ w' = w := Any.strings_CutPrefix Tryd.lays103p s p w
theorem libClone (s : ByteArray) (w : World) (hlim : s.size ≤ 281474976710656) :
    Calls Tryd.prog 51 #[.string s] w fun e w' => e = .returned (.string s) ∧ Below w.heap.size w w' := Any.stringslite_Clone Tryd.laysM316 s w hlim
end Go.Proofs.YtchgelfomnbpaaaDoor
namespace Go.Proofs.YtchgelfomnbpaaaDoor
open Go.RowKit
open Go.Lib

theorem index_in : ∀ (l : Bt) (c : UInt8), (0 ≤ Lib.indexByte l c) ↔ c ∈ l := by
  intro l c
  have h1 := Lib.indexByte_ge l c
  constructor
  · intro h
    obtain ⟨o, ho⟩ : ∃ o : Nat, Lib.indexByte l c = o := ⟨(Lib.indexByte l c).toNat, by omega⟩
    exact List.mem_of_getElem? (Lib.indexByte_some ho).1
  · intro h
    refine Classical.byContradiction fun hn => ?_
    have he : Lib.indexByte l c = -1 := by omega
    obtain ⟨k, hk, e⟩ := List.getElem_of_mem h
    exact Lib.indexByte_none he k (by rw [List.getElem?_eq_getElem hk, e])
theorem byte_back (c : UInt8) : ((c.toNat : Int)).toNat.toUInt8 = c := by
  rw [Int.toNat_natCast]
  exact UInt8.ofNat_toNat
/-- Does a text start with one of some bytes? -/
def startL (s some : Bt) : Bool := match s with | [] => false | c :: _ => decide (c ∈ some)
set_option maxRecDepth 100000 in
theorem starts_w (s som : Bt) (w : World) : Calls Tryd.prog 80 #[.string (bs s), .string (bs som)] w fun e w' => e = .returned (.bool (startL s som)) ∧ w' = w := by
  cases s with
  | nil =>
    have hne : (bs ([] : Bt)).toList = [] := by rw [Lib.toList_data]; rfl
    go_enter Tryd.func80, Tryd.ntmps80
    go_wp2
    go_ret
    exact ⟨rfl, rfl⟩
  | cons c r =>
    have hne : ¬ (bs (c :: r)).toList = [] := by rw [Lib.toList_data, bs_list]; exact List.cons_ne_nil _ _
    obtain ⟨b, hb⟩ : ∃ b, startL (c :: r) som = b := ⟨_, rfl⟩
    obtain ⟨i, hi⟩ : ∃ i, Lib.indexByte som c = i := ⟨_, rfl⟩
    have hpos : 0 < (bs (c :: r)).size := by rw [bs_size]; simp
    have h0 : (bs (c :: r))[0]'hpos = c := rfl
    have HC : Hid (∀ W, Calls Tryd.prog 95 #[.string (bs som), .int .u8 (((bs (c :: r))[0]'hpos).toNat : Int)] W fun e w' => e = .returned (.int .i64 i) ∧ w' = W) := Lib.hid (fun W => by
      have := libIndexByte (bs som) ((c.toNat : Nat) : Int) W
      rw [bs_list, byte_back, hi] at this
      rw [h0]
      exact this)
    have hib : decide (0 ≤ i) = b := by
      rw [← hb]
      show _ = decide (c ∈ som)
      rw [← hi]
      exact decide_eq_decide.2 (index_in som c)
    rw [hb]
    obtain ⟨S, hS⟩ : ∃ S, bs (c :: r) = S := ⟨_, rfl⟩
    clear h0
    revert hpos HC
    rw [hS]
    rw [hS] at hne
    intro hpos HC
    clear hi hb hS
    go_enter Tryd.func80, Tryd.ntmps80
    go_wp2_with (go_at_call 95; (with_reducible refine (HC.out _).mono ?_); rintro e w1 ⟨rfl, rfl⟩)
    go_ret
    refine ⟨ret_b6 ?_, rfl⟩
    cases hl : S.toList with
    | nil => exact absurd hl hne
    | cons a t => rfl
/-! ### Digits -/
def digS : Bt := [48, 49, 50, 51, 52, 53, 54, 55, 56, 57]
theorem digs_mem (c : UInt8) : digS.contains c = isD 10 c := by
  have h : ∀ n : Nat, n < 256 → digS.contains (UInt8.ofNat n) = isD 10 (UInt8.ofNat n) := by decide +kernel
  have := h c.toNat (UInt8.toNat_lt c)
  rw [UInt8.ofNat_toNat] at this
  exact this
theorem start_digs (s : Bt) : startL s digS = decide (dgL s ≠ 0) := by
  cases s with
  | nil => rfl
  | cons c r =>
    show decide (c ∈ digS) = _
    have h := digs_mem c
    rw [List.contains_eq_mem] at h
    rw [h]
    cases hd : isD 10 c with
    | true =>
      have : dgL (c :: r) ≠ 0 := by unfold dgL; rw [List.takeWhile_cons_of_pos hd]; simp
      rw [decide_eq_true this]
    | false =>
      have : dgL (c :: r) = 0 := by unfold dgL; rw [List.takeWhile_cons_of_neg (by simp [hd])]; rfl
      rw [this]
      rfl
theorem drop_while (p : UInt8 → Bool) : ∀ s : Bt, s.dropWhile p = s.drop (s.takeWhile p).length
  | [] => rfl
  | c :: r => by
    cases h : p c with
    | true => rw [List.dropWhile_cons_of_pos h, List.takeWhile_cons_of_pos h, List.length_cons, List.drop_succ_cons, drop_while p r]
    | false => rw [List.dropWhile_cons_of_neg (by simp [h]), List.takeWhile_cons_of_neg (by simp [h])]; rfl
theorem trim_digs (s : Bt) (W : World) : Calls Tryd.prog 56 #[.string (bs s), .string ⟨#[48, 49, 50, 51, 52, 53, 54, 55, 56, 57]⟩] W fun e w' => e = .returned (.string (bs (s.drop (dgL s)))) ∧ Below W.heap.size W w' := by
  have h := libTrimLeft (bs s) (bs digS) W (by decide) (by
    intro j b h
    rw [bs_list] at h
    have := List.mem_of_getElem? h
    have hall : ∀ c ∈ digS, c.toNat < 128 := by decide
    exact hall b this)
  rw [bs_list, bs_list] at h
  have e : Lib.trimLeftS s digS = s.drop (dgL s) := by
    unfold Lib.trimLeftS
    rw [show (fun x => digS.contains x) = isD 10 from funext digs_mem, drop_while]
    rfl
  rw [e] at h
  exact h
/-- What is told of the bytes behind some. -/
def FOut (o : Option Bt) (w : World) (e : Ending) (w' : World) : Prop := e = .returned (.tuple #[.string (bs (o.getD [])), .bool o.isSome]) ∧ Below w.heap.size w w'
theorem FOut.bad {o : Option Bt} {w w' : World} (h : o = none) (hb : Below w.heap.size w w') : FOut o w (.returned (.tuple #[.string ⟨#[]⟩, .bool false])) w' := by subst h; exact ⟨rfl, hb⟩
theorem FOut.good {o : Option Bt} {r : Bt} {w w' : World} (h : o = some r) (hb : Below w.heap.size w w') : FOut o w (.returned (.tuple #[.string (bs r), .bool true])) w' := by subst h; exact ⟨rfl, hb⟩
set_option maxRecDepth 100000 in
theorem digits_any (s : Bt) (w : World) : Calls Tryd.prog 79 #[.string (bs s)] w (FOut (digF s) w) := by
  have HS := Lib.hid (fun W => starts_w s digS W)
  rw [start_digs] at HS
  have HT := Lib.hid (fun W => trim_digs s W)
  by_cases h : dgL s = 0
  · have hd : digF s = none := by unfold digF; rw [if_pos h]
    have HD := Lib.hid hd
    rw [decide_eq_false (by simp [h])] at HS
    clear h hd
    go_enter Tryd.func79, Tryd.ntmps79
    go_wp2_with (go_at_call 80; refine (HS.out _).mono ?_; rintro e w1 ⟨rfl, rfl⟩)
    go_ret2
    exact FOut.bad HD.out (Below.refl _ _)
  · obtain ⟨r, hr⟩ : ∃ r, s.drop (dgL s) = r := ⟨_, rfl⟩
    have hd : digF s = some r := by unfold digF; rw [if_neg h, hr]
    have HD := Lib.hid hd
    rw [hr] at HT
    rw [decide_eq_true h] at HS
    clear h hd hr
    go_enter Tryd.func79, Tryd.ntmps79
    go_wp2_with (first
      | (go_at_call 80; refine (HS.out _).mono ?_; rintro e w1 ⟨rfl, rfl⟩)
      | (go_at_call 56; (with_reducible refine (HT.out _).mono ?_); rintro e w1 ⟨rfl, b1⟩))
    go_ret2
    exact FOut.good HD.out b1
end Go.Proofs.YtchgelfomnbpaaaDoor
