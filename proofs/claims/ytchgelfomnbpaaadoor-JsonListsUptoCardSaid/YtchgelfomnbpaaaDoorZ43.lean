/-
  The document's Size of a value of JSON: past 100000 it says only that. No conditions.
-/
import Derived.Test.YtchgelfomnbpaaaDoorZ20
import Derived.Test.YtchgelfomnbpaaaDoorZ25
namespace Go.Proofs.YtchgelfomnbpaaaDoor
open Go.RowKit
open Go.Lib

theorem nsW_takeQ : ∀ (ns : List Bt) (j : Nat) (h : j < ns.length), nsW (ns.take (j + 1)) = nsW (ns.take j) + (ns[j].length + 1)
  | x :: r, 0, _ => by rw [List.take_succ_cons, nsW, List.take_zero, List.take_zero, nsW]; simp
  | x :: r, j + 1, h => by
    have := nsW_takeQ r j (by simpa using h)
    rw [List.take_succ_cons, List.take_succ_cons, nsW, nsW, this]
    simp only [List.getElem_cons_succ]
    omega
theorem wsJ_takeQ : ∀ (l : List JV) (j : Nat) (h : j < l.length), wsJ (l.take (j + 1)) = wsJ (l.take j) + wJ l[j]
  | x :: r, 0, _ => by rw [List.take_succ_cons, wsJ, List.take_zero, List.take_zero, wsJ]; simp
  | x :: r, j + 1, h => by
    have := wsJ_takeQ r j (by simpa using h)
    rw [List.take_succ_cons, List.take_succ_cons, wsJ, wsJ, this]
    simp only [List.getElem_cons_succ]
    omega
theorem run_max3 {P : Program} (w : World) (ts : Array TypeId) (t : TypeId) (x y z M : Int) (h : max (max x y) z = M) :
    (Builtin.max_ ts t #[.int .i64 x, .int .i64 y, .int .i64 z]).run P w = .ok (.int .i64 M) w := by
  have e : ∀ x y : Int, (if x < y then y else x) = max x y := by
    intro x y
    rw [Int.max_def]
    split <;> split <;> omega
  subst h
  simp [Builtin.max_, Builtin.max2, e]
/-- What the document's Size says. -/
def SizeO (d : Nat) (v : JV) (w : World) (e : Ending) (w' : World) : Prop := (∃ y : Int, e = .returned (.int .i64 y) ∧ 0 ≤ y ∧ y ≤ 300000 + 100000 * (d : Int) ∧ (y ≤ 100000 → (wJ v : Int) ≤ y)) ∧ Below w.heap.size w w'
set_option maxRecDepth 100000 in
set_option maxHeartbeats 2000000 in
theorem rsize_any (T : Nat → Prop) : ∀ (d : Nat) (z : Int) (v : JV) (x : Value) (w : World), d ≤ 40 → z = (d : Int) → JR w T v x → Calls Tryd.prog 15 #[x, .int .i64 z] w (SizeO d v w)
  | 0, z, .mk k t ns l, x, w, _, hz, hJ => by
    rw [JR] at hJ
    obtain ⟨nA, nc, lA, lc, rfl, _, _⟩ := hJ
    subst hz
    go_enter Tryd.func15, Tryd.ntmps15
    go_wp2
    go_ret
    exact ⟨⟨100001, rfl, by decide, by decide, fun h => absurd h (by decide)⟩, (Below.refl _ _).alloc (Nat.le_refl _) _⟩
  | d + 1, z, .mk k t ns l, x, w, hd, hz, hJ => by
    have IH := Lib.hid (rsize_any T d)
    rw [JR] at hJ
    obtain ⟨nA, nc, lA, lc, rfl, hT, hl⟩ := hJ
    obtain ⟨nn, hnn⟩ : ∃ n, ns.length = n := ⟨_, rfl⟩
    obtain ⟨n, hn⟩ : ∃ n, l.length = n := ⟨_, rfl⟩
    obtain ⟨S, hS⟩ : ∃ s, bs t = s := ⟨_, rfl⟩
    rw [hnn, hn, hS]
    have HM : Hid (S.size = t.length) := Lib.hid (by rw [← hS, bs_size])
    have hzd : ¬ z = 0 := by omega
    have hzb : (z == 0) = false := by rw [beq_eq_false_iff_ne]; exact hzd
    have HN := Lib.hid hn
    have HNN := Lib.hid hnn
    have HL := Lib.hid hl
    have HT := Lib.hid hT
    have HZD := Lib.hid hz
    have HD := Lib.hid hd
    have hz1 : z ≤ 100 := by omega
    have hz2 : 1 ≤ z := by omega
    obtain ⟨X, hX⟩ : ∃ X, max (max (S.size : Int) nn) n = X := ⟨_, rfl⟩
    have HX := Lib.hid hX
    have hmax : ∀ W, (Builtin.max_ #[3, 3, 3] 3 #[.int .i64 (S.size : Int), .int .i64 (nn : Int), .int .i64 (n : Int)]).run Tryd.prog W = .ok (.int .i64 X) W := fun W => run_max3 W _ _ _ _ _ _ hX
    clear hl hn hnn hT hz hS hd hX
    obtain ⟨B, hB⟩ : ∃ B, w.heap.size = B := ⟨_, rfl⟩
    by_cases hbig : 100000 < X
    · go_enter Tryd.func15, Tryd.ntmps15
      go_wp2
      go_ret
      exact ⟨⟨100001, rfl, by decide, by omega, fun h => absurd h (by decide)⟩, (Below.refl _ _).alloc (Nat.le_refl _) _⟩
    · have hs1 : S.size ≤ 100000 := by have := HX.out; omega
      have hs2 : nn ≤ 100000 := by have := HX.out; omega
      have hs3 : n ≤ 100000 := by have := HX.out; omega
      go_enter Tryd.func15, Tryd.ntmps15
      go_wp2
      have HB1 : Hid (Below B w (w.alloc (.cells #[.int .i64 k, .string S, .slice nA nn nc, .slice lA n lc] TJ))) := Lib.hid (by rw [← hB]; exact (Below.refl _ _).alloc (Nat.le_refl _) _)
      have HJ1 : Hid (J4 B (.int .i64 k) (.string S) (.slice nA nn nc) (.slice lA n lc) (w.alloc (.cells #[.int .i64 k, .string S, .slice nA nn nc, .slice lA n lc] TJ))) := Lib.hid (by rw [← hB]; exact Blk.new _ w)
      obtain ⟨w1, hw1⟩ : ∃ x, w.alloc (.cells #[.int .i64 k, .string S, .slice nA nn nc, .slice lA n lc] TJ) = x := ⟨_, rfl⟩
      rw [hw1] at HB1 HJ1 ⊢
      clear hw1 hmax
      go_loopw [5, 32] (fun s i wr => ∃ (j : Nat) (y : Int), j ≤ nn ∧ i = .int .i64 j ∧ s = .int .i64 y ∧ 0 ≤ y ∧ y ≤ 200001 ∧ Hid (y = 1 + t.length + nsW (ns.take j)) ∧ wr = w1) (fun _ i _ => nn - (RowKit.intOf i).toNat)
      case atStart => exact ⟨0, 1 + (S.size : Int), Nat.zero_le _, rfl, rfl, by omega, by omega, Lib.hid (by rw [List.take_zero, nsW, HM.out]; simp), rfl⟩
      case round =>
        obtain ⟨j, y, hj, rfl, rfl, hy0, hy1, HY, rfl⟩ := hrel
        have f0 := HJ1.out.c0
        have f1 := HJ1.out.c1
        have f2 := HJ1.out.c2
        have f3 := HJ1.out.c3
        by_cases hjn : j < nn
        · have hjl : j < ns.length := by rw [HNN.out]; exact hjn
          obtain ⟨b, off, hAe, hTb, hbw, hc⟩ := HT.out (by omega)
          have hb0 : Below w.heap.size w wr := by rw [hB]; exact HB1.out
          have y0 := (hb0.cell (p := ⟨b, off + j, none⟩) hbw).trans (hc j hjl)
          obtain ⟨N1, hN1⟩ : ∃ s, bs ns[j] = s := ⟨_, rfl⟩
          have HN1 : Hid (N1.size = ns[j].length) := Lib.hid (by rw [← hN1, bs_size])
          have HTK := Lib.hid (nsW_takeQ ns j hjl)
          rw [hN1] at y0
          subst hAe
          clear hc hN1 hb0
          by_cases hy2 : 100000 < y
          · go_wp2
            go_ret
            exact ⟨⟨100001, rfl, by decide, by omega, fun h => absurd h (by decide)⟩, by rw [hB]; exact HB1.out⟩
          · by_cases hN2 : 100000 < (N1.size : Int)
            · go_wp2
              go_ret
              exact ⟨⟨100001, rfl, by decide, by omega, fun h => absurd h (by decide)⟩, by rw [hB]; exact HB1.out⟩
            · go_wp2
              exact ⟨⟨j + 1, y + ((N1.size : Int) + 1), by omega, rfl, rfl, by omega, by omega, Lib.hid (by rw [HTK.out, HY.out, ← HN1.out]; push_cast; omega), trivial⟩, by show nn - ((j : Int) + 1).toNat < nn - (j : Int).toNat; omega⟩
        · obtain rfl : j = nn := by omega
          have htk : ns.take j = ns := List.take_of_length_le (by rw [HNN.out]; exact Nat.le_refl _)
          rw [htk] at HY
          clear htk
          go_wp2
          go_loopw [5, 52] (fun s i wq => ∃ (q : Nat) (u : Int), q ≤ n ∧ i = .int .i64 q ∧ s = .int .i64 u ∧ 0 ≤ u ∧ u ≤ 300000 + 100000 * ((d + 1 : Nat) : Int) ∧ Hid (u ≤ 100000 → 1 + (t.length : Int) + nsW ns + wsJ (l.take q) ≤ u) ∧ Hid (Below B w wq)) (fun _ i _ => n - (RowKit.intOf i).toNat)
          case atStart => exact ⟨0, y, Nat.zero_le _, rfl, rfl, hy0, by omega, Lib.hid (fun _ => by rw [List.take_zero, wsJ, HY.out]; simp), HB1⟩
          case round =>
            clear f0 f1 f2 f3 hy0 hy1 HY
            obtain ⟨q, u, hq, rfl, rfl, hu0, hu1, HU, HB⟩ := hrel
            by_cases hqn : q < n
            · have hql : q < l.length := by rw [HN.out]; exact hqn
              obtain ⟨b, off, hAe, hTb, hbw, hJl⟩ := HL.out (by omega)
              obtain ⟨x0, x1, x2, x3, c0, c1, c2, c3, hJ⟩ := hJl.at q hql
              have HTK := Lib.hid (wsJ_takeQ l q hql)
              obtain ⟨vj, hvj⟩ : ∃ v, l[q] = v := ⟨_, rfl⟩
              rw [hvj] at hJ HTK
              obtain ⟨k', t', ns', l'⟩ := vj
              have hJ' := hJ
              rw [JR] at hJ'
              obtain ⟨nA', nc', lA', lc', hagg, _, _⟩ := hJ'
              obtain ⟨nn', hnn'⟩ : ∃ x, ns'.length = x := ⟨_, rfl⟩
              obtain ⟨ln', hln'⟩ : ∃ x, l'.length = x := ⟨_, rfl⟩
              rw [hnn', hln'] at hagg
              obtain ⟨rfl, rfl, rfl, rfl⟩ : x0 = .int .i64 k' ∧ x1 = .string (bs t') ∧ x2 = .slice nA' nn' nc' ∧ x3 = .slice lA' ln' lc' := by
                injection hagg with h
                simpa using h
              have hb0 : Below w.heap.size w wr := by rw [hB]; exact HB.out
              have y0 := (hb0.cell (p := ⟨b, off + q * 4, none⟩) hbw).trans c0
              have y1 := (hb0.cell (p := ⟨b, off + q * 4 + 1, none⟩) hbw).trans c1
              have y2 := (hb0.cell (p := ⟨b, off + q * 4 + 2, none⟩) hbw).trans c2
              have y3 := (hb0.cell (p := ⟨b, off + q * 4 + 3, none⟩) hbw).trans c3
              have hba : Below wr.heap.size wr (wr.alloc (.cells #[.int .i64 k', .string (bs t'), .slice nA' nn' nc', .slice lA' ln' lc'] TJ)) := (Below.refl _ _).alloc (Nat.le_refl _) _
              have HB2 : Hid (Below B w (wr.alloc (.cells #[.int .i64 k', .string (bs t'), .slice nA' nn' nc', .slice lA' ln' lc'] TJ))) := Lib.hid (HB.out.trans (hba.mono (by rw [← hB]; exact hb0.size)))
              have HC : Hid (Calls Tryd.prog 15 #[.agg #[.int .i64 k', .string (bs t'), .slice nA' nn' nc', .slice lA' ln' lc'], .int .i64 (z - 1)] (wr.alloc (.cells #[.int .i64 k', .string (bs t'), .slice nA' nn' nc', .slice lA' ln' lc'] TJ)) (SizeO d (.mk k' t' ns' l') (wr.alloc (.cells #[.int .i64 k', .string (bs t'), .slice nA' nn' nc', .slice lA' ln' lc'] TJ)))) := Lib.hid
                (IH.out (z - 1) (.mk k' t' ns' l') _ _ (by have := HD.out; omega) (by have := HZD.out; omega) ((hJ.below hb0).below hba))
              have n0 := (Blk.new (.cells #[.int .i64 k', .string (bs t'), .slice nA' nn' nc', .slice lA' ln' lc'] TJ (0, 0)) wr).cell 0
              have n1 := (Blk.new (.cells #[.int .i64 k', .string (bs t'), .slice nA' nn' nc', .slice lA' ln' lc'] TJ (0, 0)) wr).cell 1
              have n2 := (Blk.new (.cells #[.int .i64 k', .string (bs t'), .slice nA' nn' nc', .slice lA' ln' lc'] TJ (0, 0)) wr).cell 2
              have n3 := (Blk.new (.cells #[.int .i64 k', .string (bs t'), .slice nA' nn' nc', .slice lA' ln' lc'] TJ (0, 0)) wr).cell 3
              have hsz := hb0.size
              have HSZ2 : Hid (B ≤ (wr.alloc (.cells #[.int .i64 k', .string (bs t'), .slice nA' nn' nc', .slice lA' ln' lc'] TJ)).heap.size) := Lib.hid (by have := hba.size; omega)
              have hd40 : d ≤ 40 := by have := HD.out; omega
              subst hAe
              clear hJl hJ hvj hagg hnn' hln' c0 c1 c2 c3 hba
              by_cases hu2 : 100000 < u
              · go_wp2
                go_ret
                exact ⟨⟨100001, rfl, by decide, by omega, fun h => absurd h (by decide)⟩, by rw [hB]; exact HB2.out⟩
              · go_wp2_with (go_at_call 15; (with_reducible refine HC.out.mono ?_); rintro e w5 ⟨⟨g, rfl, hg0, hg1, hg2⟩, b5⟩; have HB3 := Lib.hid (HB2.out.trans (b5.mono HSZ2.out)); have HG2 := Lib.hid hg2; clear b5 hg2)
                exact ⟨⟨q + 1, u + g, by omega, rfl, rfl, by omega, by push_cast; omega, Lib.hid (fun h => by
                  have h1 := HU.out (by omega)
                  have h2 := HG2.out (by omega)
                  rw [HTK.out]
                  push_cast
                  omega), HB3⟩, by show n - ((q : Int) + 1).toNat < n - (q : Int).toNat; omega⟩
            · obtain rfl : q = n := by omega
              have htk : l.take q = l := List.take_of_length_le (by rw [HN.out]; exact Nat.le_refl _)
              rw [htk] at HU
              clear htk
              go_wp2
              go_ret
              exact ⟨⟨u, rfl, hu0, hu1, fun h => by
                have h1 := HU.out h
                rw [wJ]
                push_cast
                omega⟩, by rw [hB]; exact HB.out⟩
end Go.Proofs.YtchgelfomnbpaaaDoor
