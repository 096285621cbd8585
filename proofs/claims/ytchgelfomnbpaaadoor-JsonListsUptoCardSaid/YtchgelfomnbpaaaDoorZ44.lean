/-
  The document's Get of values of JSON. Conditions: values of modest size, in blocks that the world holds.
-/
import Derived.Test.YtchgelfomnbpaaaDoorZ32
namespace Go.Proofs.YtchgelfomnbpaaaDoor
open Go.RowKit
open Go.Lib

/-- What the document's Get gives: a member as it lies. -/
def RGetO (T : Nat → Prop) (v : JV) (b : Bool) (w : World) (e : Ending) (w' : World) : Prop := (∃ x0 x1 x2 x3, e = .returned (.tuple #[.agg #[x0, x1, x2, x3], .bool b]) ∧ One4 x0 x1 x2 x3 ∧ JR w' T v (.agg #[x0, x1, x2, x3])) ∧ Below w.heap.size w w'
/-- How many members may be asked. -/
def cntJ (k : Int) (nn n : Nat) : Nat := if k = 6 then min nn n else 0
def pickV (ns : List Bt) (l : List JV) (nm : Bt) (j : Nat) : JV := if 0 ≤ lastN ns nm j then l.getD (lastN ns nm j).toNat zeroV else zeroV
theorem lastJ_cnt (k : Int) (ns : List Bt) (n : Nat) (nm : Bt) : lastJ k ns n nm = lastN ns nm (cntJ k ns.length n) := by
  unfold lastJ cntJ
  split <;> rfl
/-- The state of the document's loop. -/
def GSt (T : Nat → Prop) (B : Nat) (k : Int) (t : Bt) (a2 a3 : Value) (v : JV) (w wr : World) : Prop :=
  J4 B (.int .i64 k) (.string (bs t)) a2 a3 wr ∧ JZ (B + 1) wr ∧ (∃ y0 y1 y2 y3, J4 (B + 2) y0 y1 y2 y3 wr ∧ One4 y0 y1 y2 y3 ∧ JR wr T v (.agg #[y0, y1, y2, y3])) ∧ Below B w wr
set_option maxRecDepth 100000 in
set_option maxHeartbeats 2000000 in
theorem rget_any {T : Nat → Prop} {v : JV} {x : Value} {w : World} (nm : Bt) (hJ : JR w T v x) (hTw : ∀ b, T b → b < w.heap.size) (hW : wJ v ≤ 1000000) :
    Calls Tryd.prog 20 #[x, .string (bs nm)] w (RGetO T (getV v nm) (getB v nm) w) := by
  obtain ⟨k, t, ns, l⟩ := v
  rw [JR] at hJ
  obtain ⟨nA, nc, lA, lc, rfl, hT, hL⟩ := hJ
  rw [wJ] at hW
  have hnsl := nsW_len ns
  have hwl := wsJ_len l
  have HGV : Hid (getV (.mk k t ns l) nm = pickV ns l nm (cntJ k ns.length l.length)) := Lib.hid (by
    unfold getV getI pickV
    show (if 0 ≤ lastJ k ns l.length nm then l.getD (lastJ k ns l.length nm).toNat zeroV else zeroV) = _
    rw [lastJ_cnt])
  have HGB : Hid (getB (.mk k t ns l) nm = decide (0 ≤ lastN ns nm (cntJ k ns.length l.length))) := Lib.hid (by
    show decide (0 ≤ lastJ k ns l.length nm) = _
    rw [lastJ_cnt])
  obtain ⟨G, hG⟩ : ∃ g, getV (.mk k t ns l) nm = g := ⟨_, rfl⟩
  obtain ⟨b, hb⟩ : ∃ g, getB (.mk k t ns l) nm = g := ⟨_, rfl⟩
  rw [hG] at HGV ⊢
  rw [hb] at HGB ⊢
  have HL := Lib.hid hL
  have HT := Lib.hid hT
  have HTW := Lib.hid hTw
  have hn9 : l.length ≤ 1000000 := by omega
  have hnn9 : ns.length ≤ 1000000 := by omega
  clear hL hG hb hW hnsl hwl hT hTw
  obtain ⟨nn, hnn⟩ : ∃ n, ns.length = n := ⟨_, rfl⟩
  obtain ⟨n, hn⟩ : ∃ n, l.length = n := ⟨_, rfl⟩
  rw [hn] at hn9
  rw [hnn] at hnn9
  rw [hnn, hn] at HGV HGB ⊢
  have HN := Lib.hid hn
  have HNN := Lib.hid hnn
  clear hnn hn
  obtain ⟨N, hN⟩ : ∃ s, bs nm = s := ⟨_, rfl⟩
  have HNM := Lib.hid hN
  rw [hN]
  clear hN
  obtain ⟨B, hB⟩ : ∃ B, w.heap.size = B := ⟨_, rfl⟩
  obtain ⟨C, hC⟩ : ∃ c, cntJ k nn n = c := ⟨_, rfl⟩
  rw [hC] at HGV HGB
  have HCN := Lib.hid hC
  clear hC
  obtain ⟨W1, hW1⟩ : ∃ W, ((w.alloc (.cells #[.int .i64 k, .string (bs t), .slice nA nn nc, .slice lA n lc] TJ)).alloc (.cells #[.int .i64 0, .string ⟨#[]⟩, .slice none 0 0, .slice none 0 0] TJ)).alloc (.cells #[.int .i64 0, .string ⟨#[]⟩, .slice none 0 0, .slice none 0 0] TJ) = W := ⟨_, rfl⟩
  have HST : Hid (GSt T B k t (.slice nA nn nc) (.slice lA n lc) (pickV ns l nm 0) w W1) := Lib.hid (by
    rw [← hW1, ← hB]
    refine ⟨?_, ?_, ⟨.int .i64 0, .string ⟨#[]⟩, .slice none 0 0, .slice none 0 0, ?_, ⟨rfl, rfl, rfl, rfl⟩, ?_⟩, ?_⟩
    · exact (Off.of_below (((Below.refl _ _).alloc (Nat.le_refl _) _).alloc (by simp) _)).blk (Blk.new _ w) (fun h => h)
    · have h1 := Blk.new (.cells #[.int .i64 0, .string ⟨#[]⟩, .slice none 0 0, .slice none 0 0] TJ (0, 0)) (w.alloc (.cells #[.int .i64 k, .string (bs t), .slice nA nn nc, .slice lA n lc] TJ))
      have h2 := (Off.of_below ((Below.refl _ _).alloc (Nat.le_refl _) (.cells #[.int .i64 0, .string ⟨#[]⟩, .slice none 0 0, .slice none 0 0] TJ (0, 0)))).blk h1 (fun h => h)
      unfold JZ J4
      simpa using h2
    · have h1 := Blk.new (.cells #[.int .i64 0, .string ⟨#[]⟩, .slice none 0 0, .slice none 0 0] TJ (0, 0)) ((w.alloc (.cells #[.int .i64 k, .string (bs t), .slice nA nn nc, .slice lA n lc] TJ)).alloc (.cells #[.int .i64 0, .string ⟨#[]⟩, .slice none 0 0, .slice none 0 0] TJ))
      unfold J4
      simpa using h1
    · exact jr_nil _ _ 0
    · exact (((Below.refl _ _).alloc (Nat.le_refl _) _).alloc (by simp) _).alloc (by simp; omega) _)
  have hsz1 : w.heap.size = B := hB
  go_enter Tryd.func20, Tryd.ntmps20
  go_wp2
  clear hW1
  go_loopw [7, 8] (fun f i wr => ∃ j : Nat, j ≤ C ∧ i = .int .i64 j ∧ f = .bool (decide (0 ≤ lastN ns nm j)) ∧ Hid (GSt T B k t (.slice nA nn nc) (.slice lA n lc) (pickV ns l nm j) w wr)) (fun _ i _ => C - (RowKit.intOf i).toNat)
  case atStart => exact ⟨0, Nat.zero_le _, rfl, rfl, HST⟩
  case round =>
    clear HST
    obtain ⟨j, hj, rfl, rfl, HS⟩ := hrel
    obtain ⟨hbx, hz, ⟨y0, y1, y2, y3, hy, hone, hjy⟩, hbw⟩ := HS.out
    have e0 := hbx.c0
    have e2 := hbx.c2
    have e3 := hbx.c3
    obtain ⟨f, hf⟩ : ∃ f, decide (0 ≤ lastN ns nm j) = f := ⟨_, rfl⟩
    rw [hf]
    have HF := Lib.hid hf
    clear hf
    by_cases hjc : j < C
    · have hk : k = 6 := Classical.byContradiction fun h => by have := HCN.out; unfold cntJ at this; rw [if_neg h] at this; omega
      have hmin : C = min nn n := by have := HCN.out; unfold cntJ at this; rw [if_pos hk] at this; omega
      have hkk : (k == 6) = true := by rw [hk]; rfl
      have hj1 : (j : Int) < (nn : Int) := by omega
      have hj2 : (j : Int) < (n : Int) := by omega
      have hjl : j < l.length := by rw [HN.out]; omega
      have hjn : j < ns.length := by rw [HNN.out]; omega
      obtain ⟨bn, offn, rfl, _, hbwn, hcn⟩ := HT.out (by omega)
      obtain ⟨bl, off, rfl, _, hbwl, hJl⟩ := HL.out (by omega)
      obtain ⟨x0, x1, x2, x3, c0, c1, c2, c3, hJ⟩ := hJl.at j hjl
      obtain ⟨k', s', nA', nn', nc', lA', ln', lc', rfl, rfl, rfl, rfl⟩ := jr_form hJ
      have hb0 : Below w.heap.size w wr := by rw [hsz1]; exact hbw
      have yn := (hb0.cell (p := ⟨bn, offn + j, none⟩) hbwn).trans (hcn j hjn)
      have v0 := (hb0.cell (p := ⟨bl, off + j * 4, none⟩) hbwl).trans c0
      have v1 := (hb0.cell (p := ⟨bl, off + j * 4 + 1, none⟩) hbwl).trans c1
      have v2 := (hb0.cell (p := ⟨bl, off + j * 4 + 2, none⟩) hbwl).trans c2
      have v3 := (hb0.cell (p := ⟨bl, off + j * 4 + 3, none⟩) hbwl).trans c3
      have HJE := Lib.hid (hJ.below hb0)
      obtain ⟨S, hS⟩ : ∃ s, bs ns[j] = s := ⟨_, rfl⟩
      rw [hS] at yn
      obtain ⟨q, hq⟩ : ∃ q, (S.toList == N.toList) = q := ⟨_, rfl⟩
      have HQ : Hid (q = decide (ns[j] = nm)) := Lib.hid (by
        rw [← hq, ← hS, ← HNM.out, eqT_bool]
        by_cases e : ns[j] = nm
        · rw [decide_eq_true e, e]; exact beq_self_eq_true nm
        · rw [decide_eq_false e, beq_eq_false_iff_ne]; exact e)
      have HLN : Hid (lastN ns nm (j + 1) = if q then (j : Int) else lastN ns nm j) := Lib.hid (by
        rw [lastN, List.getElem?_eq_getElem hjn, HQ.out]
        by_cases e : ns[j] = nm
        · rw [if_pos (by rw [e]), decide_eq_true e]; rfl
        · rw [if_neg (fun h => e (Option.some.inj h)), decide_eq_false e]; rfl)
      have HSTEP : Hid (q = true → pickV ns l nm (j + 1) = l[j] ∧ decide (0 ≤ lastN ns nm (j + 1)) = true) := Lib.hid (fun h => by
        unfold pickV
        rw [HLN.out, h]
        simp [List.getD, hjl])
      have HSAME : Hid (q = false → pickV ns l nm (j + 1) = pickV ns l nm j ∧ decide (0 ≤ lastN ns nm (j + 1)) = f) := Lib.hid (fun h => by
        unfold pickV
        rw [HLN.out, h]
        exact ⟨rfl, HF.out⟩)
      have HBX := Lib.hid hbx
      have HJY := Lib.hid hjy
      have HZ := Lib.hid hz
      have HBW := Lib.hid hbw
      clear hcn hJl c0 c1 c2 c3 hJ hb0 hS hbx hz hjy hbw HS hmin hk
      cases q with
      | true =>
        obtain ⟨s1, s2⟩ := HSTEP.out rfl
        have HS1 := Lib.hid s1
        have HS2 := Lib.hid s2
        clear s1 s2
        go_wp2_with (guard_target =~ Go.wpList _ _ _ ({ dst := none, op := Go.Op.store 28 _ _, type := _, pos := _, after := _, guard := none } :: _) _ _; refine st4 rfl rfl ⟨rfl, rfl, rfl, rfl⟩ hy ?_)
        intro wz hz oz
        have HNEW : Hid (GSt T B k t (.slice (some ⟨bn, offn, none⟩) nn nc) (.slice (some ⟨bl, off, none⟩) n lc) (pickV ns l nm (j + 1)) w wz) := Lib.hid (by
          refine ⟨oz.blk HBX.out (by omega), oz.blk HZ.out (by omega), ⟨_, _, _, _, hz, ⟨rfl, rfl, rfl, rfl⟩, ?_⟩, ?_⟩
          · rw [HS1.out]
            exact JR.off oz (fun b hb e => by have := HTW.out b hb; omega) _ _ HJE.out
          · rw [← hsz1]
            exact pushed_below (by rw [hsz1]; exact HBW.out) oz (fun b hb => by omega))
        clear hy oz hz
        go_wp2
        exact ⟨⟨j + 1, by omega, rfl, by rw [HS2.out], HNEW⟩, by show C - ((j : Int) + 1).toNat < C - (j : Int).toNat; omega⟩
      | false =>
        obtain ⟨s1, s2⟩ := HSAME.out rfl
        have HNEW : Hid (GSt T B k t (.slice (some ⟨bn, offn, none⟩) nn nc) (.slice (some ⟨bl, off, none⟩) n lc) (pickV ns l nm (j + 1)) w wr) := Lib.hid (by
          rw [s1]
          exact ⟨HBX.out, HZ.out, ⟨y0, y1, y2, y3, hy, hone, HJY.out⟩, HBW.out⟩)
        have HS2 := Lib.hid s2
        clear s1 s2 hy hone
        go_wp2
        exact ⟨⟨j + 1, by omega, rfl, by rw [HS2.out], HNEW⟩, by show C - ((j : Int) + 1).toNat < C - (j : Int).toNat; omega⟩
    · obtain rfl : j = C := by omega
      have HY := Lib.hid hy
      have HJY := Lib.hid hjy
      have HBW := Lib.hid hbw
      have HE : Hid (G = pickV ns l nm j ∧ b = f) := Lib.hid ⟨HGV.out, by rw [HGB.out, HF.out]⟩
      have g0 := hy.c0
      have g1 := hy.c1
      have g2 := hy.c2
      have g3 := hy.c3
      have hcase : (k == 6) = false ∨ ((k == 6) = true ∧ ¬ (j : Int) < (nn : Int)) ∨ ((k == 6) = true ∧ (j : Int) < (nn : Int) ∧ ¬ (j : Int) < (n : Int)) := by
        have hc := HCN.out
        unfold cntJ at hc
        by_cases hk : k = 6
        · rw [if_pos hk] at hc
          have hkk : (k == 6) = true := by rw [hk]; rfl
          by_cases h1 : (j : Int) < (nn : Int)
          · exact .inr (.inr ⟨hkk, h1, by omega⟩)
          · exact .inr (.inl ⟨hkk, h1⟩)
        · exact .inl (by rw [beq_eq_false_iff_ne]; exact hk)
      clear hbx hy hjy hbw HS
      rcases hcase with hk1 | ⟨hk1, hk2⟩ | ⟨hk1, hk2, hk3⟩
      · go_wp2_with (guard_target =~ Go.wpList _ _ _ ({ dst := none, op := Go.Op.store 28 _ _, type := _, pos := _, after := _, guard := none } :: _) _ _; refine st4 rfl rfl hone hz ?_)
        intro wz hz oz
        have HJZ : Hid (JR wz T G (.agg #[y0, y1, y2, y3])) := Lib.hid (by rw [HE.out.1]; exact JR.off oz (fun b hb e => by have := HTW.out b hb; omega) _ _ HJY.out)
        have HBZ : Hid (Below B w wz) := Lib.hid (by
          rw [← hsz1]
          exact pushed_below (by rw [hsz1]; exact HBW.out) oz (fun b hb => by omega))
        clear oz
        go_wp2
        exact bodyPost_ret (v := .tuple #[.agg #[y0, y1, y2, y3], .bool f]) (by simp [results, Tryd.results20, go_sem, J4.c0 hz, J4.c1 hz, J4.c2 hz, J4.c3 hz]) rfl ⟨⟨y0, y1, y2, y3, by rw [HE.out.2], hone, HJZ.out⟩, by rw [hsz1]; exact HBZ.out⟩
      · go_wp2_with (guard_target =~ Go.wpList _ _ _ ({ dst := none, op := Go.Op.store 28 _ _, type := _, pos := _, after := _, guard := none } :: _) _ _; refine st4 rfl rfl hone hz ?_)
        intro wz hz oz
        have HJZ : Hid (JR wz T G (.agg #[y0, y1, y2, y3])) := Lib.hid (by rw [HE.out.1]; exact JR.off oz (fun b hb e => by have := HTW.out b hb; omega) _ _ HJY.out)
        have HBZ : Hid (Below B w wz) := Lib.hid (by
          rw [← hsz1]
          exact pushed_below (by rw [hsz1]; exact HBW.out) oz (fun b hb => by omega))
        clear oz
        go_wp2
        exact bodyPost_ret (v := .tuple #[.agg #[y0, y1, y2, y3], .bool f]) (by simp [results, Tryd.results20, go_sem, J4.c0 hz, J4.c1 hz, J4.c2 hz, J4.c3 hz]) rfl ⟨⟨y0, y1, y2, y3, by rw [HE.out.2], hone, HJZ.out⟩, by rw [hsz1]; exact HBZ.out⟩
      · go_wp2_with (guard_target =~ Go.wpList _ _ _ ({ dst := none, op := Go.Op.store 28 _ _, type := _, pos := _, after := _, guard := none } :: _) _ _; refine st4 rfl rfl hone hz ?_)
        intro wz hz oz
        have HJZ : Hid (JR wz T G (.agg #[y0, y1, y2, y3])) := Lib.hid (by rw [HE.out.1]; exact JR.off oz (fun b hb e => by have := HTW.out b hb; omega) _ _ HJY.out)
        have HBZ : Hid (Below B w wz) := Lib.hid (by
          rw [← hsz1]
          exact pushed_below (by rw [hsz1]; exact HBW.out) oz (fun b hb => by omega))
        clear oz
        go_wp2
        exact bodyPost_ret (v := .tuple #[.agg #[y0, y1, y2, y3], .bool f]) (by simp [results, Tryd.results20, go_sem, J4.c0 hz, J4.c1 hz, J4.c2 hz, J4.c3 hz]) rfl ⟨⟨y0, y1, y2, y3, by rw [HE.out.2], hone, HJZ.out⟩, by rw [hsz1]; exact HBZ.out⟩
end Go.Proofs.YtchgelfomnbpaaaDoor
