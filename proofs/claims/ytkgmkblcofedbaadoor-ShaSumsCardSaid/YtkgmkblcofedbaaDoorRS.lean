/-
  What the walk of the document's Sum rests on: bytes and words appended, the words of a block as they come. No conditions.
-/
import Derived.Test.YtkgmkblcofedbaaDoorRT
import Derived.Test.YtkgmkblcofedbaaDoorSH
import Derived.Lib.SmallJoins
import Derived.ArgAppend
import Derived.Deep.RegionHeld3
namespace Go.Proofs.YtkgmkblcofedbaaDoor
open Go.RowKit
open Go.Lib

/-- Bytes more behind a list of the call's own, out of a new block. -/
theorem appB {ops : Array Oper} {rest : List Oper} {o : Oper} {a : Act} {Q : Exit → Act → World → Prop} (hgd : o.guard = none) (s x : Operand)
    (ho : o.op = .call { callee := .builtin .append, args := #[s, x], argTypes := #[22, 22] }) (w w0 : World) (B base : Nat) (v : Value) (l ys : List UInt8) (n m : Nat) (hn : l.length = n) (hm : ys.length = m) (cs : Array Value) (hcs : cs = (cellsB ys).toArray)
    (hs : a.eval s = v) (hown : OwnB w base v l) (hx : a.eval x = .slice (some ⟨w.heap.size, 0, none⟩) m m) (hlen : n + m ≤ 10000000) (hbase : base ≤ w.heap.size) (hB : B ≤ base) (hb : Below B w0 w)
    (h : ∀ A c w', OwnB w' base (.slice A (n + m) c) (l ++ ys) → RB w' A (l ++ ys) → n + m ≤ c → Below B w0 w' → wpList Tryd.prog ops Q rest (a.put o.dst (.slice A (n + m) c)) w') :
    wpList Tryd.prog ops Q (o :: rest) a (w.alloc (.cells cs 5)) := by
  subst hcs
  obtain ⟨i0, hi, hz0, hz1, hz2⟩ := info_parts Tryd.infoB
  unfold OwnB at hown
  rw [hn] at hown
  have hrow := World.rowIs_alloc w (cellsB ys).toArray 5 (bf ys) (fun i hi => by
    have hi' : i < ys.length := by simpa [cellsB_length] using hi
    simpa using cellsB_at ys i hi')
  refine wpList_append_own _ hgd s x 22 ho base 5 i0 (.int .u8 0) 1 1 Tryd.underlying22 hi hz0 hz1 hz2 rfl (by decide) v n _ hs (World.ownsRow.alloc hown _) ⟨w.heap.size, 0, none⟩ m m (cellsB ys) hx (by rw [cellsB_length, hm, Nat.mul_one]) (fun j u hj => ?_) (cellsB_one _) (by unfold maxLen; omega) (by omega) (by simp; omega) ?_
  · have hjl : j < ys.length := by have := (List.getElem?_eq_some_iff.1 hj).1; rwa [cellsB_length] at this
    rw [Addr.add_mid, Nat.zero_add, hrow.cell (by simp [cellsB_length]; exact hjl), ← cellsB_at ys j hjl]
    exact hj
  · intro v' w' hown' hgrow _
    have hfin : OwnB w' base v' (l ++ ys) := by
      unfold OwnB
      rw [List.length_append, cellsB_append, hn, hm]
      exact hown'
    obtain ⟨A, c, hv, hc, hr⟩ := hfin.read
    have hl : (l ++ ys).length = n + m := by rw [List.length_append, hn, hm]
    rw [hl] at hv hc
    subst hv
    refine h A c w' hfin hr hc ?_
    refine (hb.alloc (by omega) _).grown hgrow (by simp; omega) (fun k hk => ?_)
    have := (World.ownsRow.lt hown k hk).1
    omega
/-- A slice that came in behind a new empty one. -/
theorem appIn {ops : Array Oper} {rest : List Oper} {o : Oper} {a : Act} {Q : Exit → Act → World → Prop} (hgd : o.guard = none) (s x : Operand)
    (ho : o.op = .call { callee := .builtin .append, args := #[s, x], argTypes := #[22, 22] }) (w w0 : World) (B : Nat) (l : List UInt8) (n c : Nat) (A : Option Addr) (hn : l.length = n) (hA : A = none → c = 0)
    (hs : a.eval s = .slice (some ⟨w.heap.size, 0, none⟩) 0 0) (hx : a.eval x = .slice A n c) (hr : RB w A l) (hlen : n ≤ 10000000) (hB : B ≤ w.heap.size) (hb : Below B w0 w)
    (h : ∀ v w', OwnB w' w.heap.size v l → Below B w0 w' → wpList Tryd.prog ops Q rest (a.put o.dst v) w') :
    wpList Tryd.prog ops Q (o :: rest) a (w.alloc (.cells #[] 5)) := by
  obtain ⟨i0, hi, hz0, hz1, hz2⟩ := info_parts Tryd.infoB
  have hrow := World.rowIs_alloc w #[] 5 (fun _ => .int .u8 0) (fun i hi => absurd hi (by simp))
  have hown := own_of_row (base := w.heap.size) (n := 0) hrow (Nat.le_refl _) (Nat.zero_le _) (by unfold maxLen; simp)
  rcases Nat.eq_zero_or_pos l.length with h0 | h0
  · obtain rfl : l = [] := List.eq_nil_of_length_eq_zero h0
    obtain rfl : n = 0 := by simpa using hn.symm
    refine wpList_append_fits_any _ hgd s x 22 ho w.heap.size 5 i0 1 Tryd.underlying22 hi hz1 w.heap.size 0 0 [] hs hown A 0 c [] hx rfl (fun e => ⟨rfl, hA e⟩) (fun ad _ j u hj => by simp at hj) (fun u hu => by simp at hu) (Nat.le_refl _) ?_
    intro w' hown' hgrow
    exact h _ w' hown' ((hb.alloc hB _).grown hgrow (by simp; omega) (fun k hk => by cases hk; exact hB))
  · obtain ⟨b, off, rfl, hbl, hc⟩ := hr h0
    refine wpList_append_own _ hgd s x 22 ho w.heap.size 5 i0 (.int .u8 0) 1 1 Tryd.underlying22 hi hz0 hz1 hz2 rfl (by decide) _ 0 [] hs hown ⟨b, off, none⟩ n c (cellsB l) hx (by rw [cellsB_length, hn, Nat.mul_one]) (fun j u hj => ?_) (cellsB_one _) (by unfold maxLen; omega) (by omega) (by simp) ?_
    · have hjl : j < l.length := by have := (List.getElem?_eq_some_iff.1 hj).1; rwa [cellsB_length] at this
      rw [Addr.add_mid]
      refine ((((Below.refl w.heap.size w).alloc (Nat.le_refl _) _).cell (p := ⟨b, off + j, none⟩) hbl).trans ?_)
      rw [hc j hjl, ← cellsB_at l j hjl]
      exact hj
    · intro v' w' hown' hgrow _
      refine h v' w' ?_ ((hb.alloc hB _).grown hgrow (by simp; omega) (fun k hk => by cases hk; exact hB))
      unfold OwnB
      rw [hn]
      rw [Nat.zero_add, List.nil_append] at hown'
      exact hown'
theorem ix_slice {P : Program} (W : World) (T e b off N c : Nat) (z : Int) (k : Nat) (hu : P.underlying T = some (.slice e)) (hs : (sizeOf e).run P W = .ok 1 W) (hz : z = (k : Int)) (hk : k < N) :
    (Instr.indexAt T (.slice (some ⟨b, off, none⟩) N c) (.int .i64 z)).run P W = .ok (.pointer (some ⟨b, off + k, none⟩)) W := by
  subst hz
  have h : (0 : Int) ≤ (k : Int) ∧ (k : Int) < (N : Int) := by omega
  simp [Instr.indexAt, run_underlying hu, asIntOf, h, hs, Addr.add_mid]
  intro h'
  omega
theorem slice_drop (W : World) (A : Option Addr) (l : List UInt8) (R c : Nat) (hR : l.length = R) (h64 : 64 ≤ R) (hc : R ≤ c) (hr : RB W A l) : ∃ A', (∀ U, (Instr.slice 22 (.slice A R c) (some (.int .i64 64)) none none).run Tryd.prog U = .ok (.slice A' (R - 64) (c - 64)) U) ∧ RB W A' (l.drop 64) := by
  obtain ⟨b, off, rfl, hbl, hcs⟩ := hr (by omega)
  refine ⟨if c = 64 then some ⟨b, off, none⟩ else some ⟨b, off + 64, none⟩, fun U => ?_, fun hz => ?_⟩
  · rw [run_slice_l U 22 (some ⟨b, off, none⟩) R c (by show Tryd.prog.underlying 22 = some (.slice (Tryd.prog.elem 22)); kernel_rfl) .i64 64 (by decide) (by omega)]
    have he : Tryd.prog.elem 22 = 5 := by kernel_rfl
    rw [he, size_u8]
    simp only [Result.andThen, sliced, Nat.mul_one]
    by_cases h : c = 64
    · subst h; simp
    · simp [h, Addr.add_mid]
  · rw [List.length_drop] at hz
    rw [if_neg (by omega)]
    refine ⟨b, off + 64, rfl, hbl, fun j hj => ?_⟩
    rw [List.length_drop] at hj
    rw [Nat.add_assoc, hcs (64 + j) (by omega)]
    unfold bf
    simp only [List.getD, List.getElem?_drop]
theorem ownW_ad {w : World} {base : Nat} {v : Value} {l : List W32} (h : OwnW w base v l) (o : Obj) : OwnW (w.alloc o).drew base v l := (World.ownsRow.alloc h o).drew
/-- One word more, as one step of a region that draws its order: the old slice reads as it did. -/
theorem stepW {ops : Array Oper} {o : Oper} {a : Act} {K : Act → World → Prop} {Q : Exit → Act → World → Prop} {E : Prop} (hgd : o.guard = none) (s x : Operand)
    (ho : o.op = .call { callee := .builtin .append, args := #[s, x], argTypes := #[48, 48] }) (w w0 : World) (B base : Nat) (A0 : Option Addr) (c0 : Nat) (l : List W32) (n : Nat) (hn : l.length = n) (y : W32)
    (hs : a.eval s = .slice A0 n c0) (hown : OwnW w base (.slice A0 n c0) l) (hx : a.eval x = .slice (some ⟨w.heap.size, 0, none⟩) 1 1) (hlen : n ≤ 1000000) (hbase : base ≤ w.heap.size) (hB : B ≤ base) (hb : Below B w0 w)
    (h : ∀ A c w', OwnW w' base (.slice A (n + 1) c) (l ++ [y]) → RW w' A (l ++ [y]) → RW w' A0 l → Below B w0 w' → K (a.put o.dst (.slice A (n + 1) c)) w') :
    if Region.wanted o (yielded ops a.tmps) = true then Oper.wp Tryd.prog o a (w.alloc (.cells #[.int .u32 (y.toNat : Int)] 40)).drew K Q else E := by
  have hw : Region.wanted o (yielded ops a.tmps) = true := by simp [Region.wanted, hgd]
  rw [if_pos hw]
  obtain ⟨i0, hi, hz0, hz1, hz2⟩ := info_parts Tryd.info32
  have hownV := ownW_ad hown (.cells #[.int .u32 (y.toNat : Int)] 40)
  have hnew : ∀ j u, [Value.int .u32 (y.toNat : Int)][j]? = some u → ((w.alloc (.cells #[.int .u32 (y.toNat : Int)] 40)).drew).cell? ((⟨w.heap.size, 0, none⟩ : Addr).add j) = some u := one_cell w _ _
  have hone : ∀ u ∈ [Value.int .u32 (y.toNat : Int)], u.oneCell' = true := fun u hu => by simp at hu; subst hu; rfl
  have hbV : Below B w0 (w.alloc (.cells #[.int .u32 (y.toNat : Int)] 40)).drew := (hb.alloc (by omega) _).drew
  have hVs : (w.alloc (.cells #[.int .u32 (y.toNat : Int)] 40)).drew.heap.size = w.heap.size + 1 := by simp
  generalize (w.alloc (.cells #[.int .u32 (y.toNat : Int)] 40)).drew = V at *
  obtain ⟨A1, c1, hv1, hc1, hr1⟩ := hownV.read
  have hown1 := hownV
  unfold OwnW at hown1
  rw [hn] at hown1
  have fin : ∀ v' w', w'.ownsRow base 40 1 v' (n + 1) (cellsW l ++ [.int .u32 (y.toNat : Int)]) → ∃ A c, v' = .slice A (n + 1) c ∧ OwnW w' base (.slice A (n + 1) c) (l ++ [y]) ∧ RW w' A (l ++ [y]) := fun v' w' ho' => by
    have hfin : OwnW w' base v' (l ++ [y]) := by
      unfold OwnW
      rw [List.length_append, cellsW_append, hn]
      exact ho'
    obtain ⟨A, c, hv, hc, hr⟩ := hfin.read
    have hl : (l ++ [y]).length = n + 1 := by rw [List.length_append, hn]; rfl
    rw [hl] at hv
    subst hv
    exact ⟨A, c, rfl, hfin, hr⟩
  rw [hn] at hv1 hc1
  cases hv1
  unfold Oper.wp
  rcases hown1.2 with ⟨e, h0⟩ | ⟨g, cap, cur, e, hbg, hh, hcc, _⟩
  · cases e
    obtain rfl : l = [] := List.eq_nil_of_length_eq_zero (by omega)
    obtain ⟨v', w', hrun, r1, r2, _⟩ := run_append_own (P := Tryd.prog) V base 48 o.type 40 i0 (.int .u32 0) 1 4 Tryd.underlying48 hi hz0 hz1 hz2 rfl (by decide) _ _ _ hown1 ⟨w.heap.size, 0, none⟩ 1 1 _ rfl hnew hone (by unfold maxLen; omega) (by omega) (by omega)
    obtain ⟨A, c, rfl, f1, f2⟩ := fin _ _ r1
    simp [execOp, ho, resolve, invoke, builtin, hs, hx, hrun, Result.andThen]
    exact h A c w' f1 f2 (fun hz => absurd hz (by simp)) (hbV.grown r2 (by omega) (fun k hk => by cases hk))
  · cases e
    rcases Nat.lt_or_ge c0 (n + 1) with hlt | hge
    · obtain ⟨v', w', hrun, r1, r2⟩ := run_append_arg_grows (P := Tryd.prog) V 48 o.type 40 i0 (.int .u32 0) 1 4 Tryd.underlying48 hi hz0 hz1 hz2 rfl (by decide) ⟨g, 0, none⟩ n c0 (cellsW l) (by rw [cellsW_length, hn, Nat.mul_one]) (fun j u hj => by
        have hjl : j < l.length := by have := (List.getElem?_eq_some_iff.1 hj).1; rwa [cellsW_length] at this
        obtain ⟨b', e, _, hcg⟩ := hr1 (by omega)
        cases e
        rw [Addr.add_mid, Nat.zero_add, hcg j hjl, ← cellsW_at l j hjl]
        exact hj) ⟨w.heap.size, 0, none⟩ 1 1 _ rfl hnew hlt (by unfold maxLen; omega) (by omega)
      obtain ⟨A, c, rfl, f1, f2⟩ := fin v' w' (Joins.ownsRow_le r1 (by omega))
      simp [execOp, ho, resolve, invoke, builtin, hs, hx, hrun, Result.andThen]
      exact h A c w' f1 f2 (hr1.below (Nat.le_refl _) ⟨r2.os, r2.tape, r2.output, r2.size, fun k hk => r2.block k hk (by simp)⟩) (hbV.grown r2 (by omega) (fun k hk => by cases hk))
    · obtain ⟨w', hrun, r1, r2⟩ := run_append_fits (P := Tryd.prog) V base 48 o.type 40 i0 1 Tryd.underlying48 hi hz1 g n c0 _ hown1 ⟨w.heap.size, 0, none⟩ 1 1 _ rfl hnew hone hge
      obtain ⟨A, c, e, f1, f2⟩ := fin _ _ r1
      cases e
      simp [execOp, ho, resolve, invoke, builtin, hs, hx, hrun, Result.andThen]
      refine h _ _ w' f1 f2 (fun hz => ?_) (hbV.grown r2 (by omega) (fun k hk => by cases hk; omega))
      obtain ⟨b', e, hlt', hcg⟩ := f2 (by rw [List.length_append]; simp)
      cases e
      refine ⟨g, rfl, hlt', fun j hj => ?_⟩
      rw [hcg j (by rw [List.length_append]; omega)]
      unfold wf
      simp only [List.getD]
      rw [List.getElem?_append_left hj]
theorem w_subw (x : W32) : IntKind.u32.wrap (4294967295 - (x.toNat : Int)) = ((~~~x).toNat : Int) := by
  rw [w_sub, IntKind.wrap_u32]; have := (~~~x).isLt; omega
theorem rnd_ref (a b c d e f g h k w : W32) : rnd ⟨a, b, c, d, e, f, g, h⟩ k w =
    ⟨(h + (rotr e 6 ^^^ rotr e 11 ^^^ rotr e 25) + ((e &&& f) ||| (~~~e &&& g)) + k + w) + ((rotr a 2 ^^^ rotr a 13 ^^^ rotr a 22) + ((a &&& b) ||| (a &&& c) ||| (b &&& c))), a, b, c, d + (h + (rotr e 6 ^^^ rotr e 11 ^^^ rotr e 25) + ((e &&& f) ||| (~~~e &&& g)) + k + w), e, f, g⟩ := rfl
theorem out_take (s : St) (i : Nat) (hi : i < 8) : (outL s).take (4 * (i + 1)) = (outL s).take (4 * i) ++ wbytes ((lstOf s).getD i 0#32) := by
  rcases (by omega : i = 0 ∨ i = 1 ∨ i = 2 ∨ i = 3 ∨ i = 4 ∨ i = 5 ∨ i = 6 ∨ i = 7) with rfl | rfl | rfl | rfl | rfl | rfl | rfl | rfl <;> rfl
theorem bs8 {ops : Array Oper} {rest : List Oper} {act : Act} {w : World} {Q : Exit → Act → World → Prop} {dst : Option Nat} {ty : TypeId} {pos : String} {af : Array Edge} {v0 v1 v2 v3 v4 v5 v6 v7 : W32}
    (h0 : act.eval (.tmp 255) = .int .u32 (v0.toNat : Int)) (h1 : act.eval (.tmp 260) = .int .u32 (v1.toNat : Int)) (h2 : act.eval (.tmp 265) = .int .u32 (v2.toNat : Int)) (h3 : act.eval (.tmp 270) = .int .u32 (v3.toNat : Int)) (h4 : act.eval (.tmp 275) = .int .u32 (v4.toNat : Int)) (h5 : act.eval (.tmp 280) = .int .u32 (v5.toNat : Int)) (h6 : act.eval (.tmp 285) = .int .u32 (v6.toNat : Int)) (h7 : act.eval (.tmp 290) = .int .u32 (v7.toNat : Int))
    (k : ∀ w', RW w' (some ⟨w.heap.size, 0, none⟩) (lstOf ⟨v0, v1, v2, v3, v4, v5, v6, v7⟩) → Below w.heap.size w w' → wpList Tryd.prog ops Q rest (act.put dst (.slice (some ⟨w.heap.size, 0, none⟩) 8 8)) w') :
    wpList Tryd.prog ops Q ({ dst := dst, op := .buildSlice 48 8 #[(0, .tmp 255), (1, .tmp 260), (2, .tmp 265), (3, .tmp 270), (4, .tmp 275), (5, .tmp 280), (6, .tmp 285), (7, .tmp 290)], type := ty, pos := pos, after := af, guard := none } :: rest) act w := by
  refine wpList_plain rfl fun K hK => ?_
  have run : (execOp act.eval { dst := dst, op := .buildSlice 48 8 #[(0, .tmp 255), (1, .tmp 260), (2, .tmp 265), (3, .tmp 270), (4, .tmp 275), (5, .tmp 280), (6, .tmp 285), (7, .tmp 290)], type := ty, pos := pos, after := af, guard := none }).run Tryd.prog w = .ok (.value (.slice (some ⟨w.heap.size, 0, none⟩) 8 8)) (w.alloc (.cells #[.int .u32 (v0.toNat : Int), .int .u32 (v1.toNat : Int), .int .u32 (v2.toNat : Int), .int .u32 (v3.toNat : Int), .int .u32 (v4.toNat : Int), .int .u32 (v5.toNat : Int), .int .u32 (v6.toNat : Int), .int .u32 (v7.toNat : Int)] 40)) := by
    clear k hK
    generalize act.eval = ev at *
    unfold execOp
    go_simp
  have hrow := World.rowIs_alloc w #[.int .u32 (v0.toNat : Int), .int .u32 (v1.toNat : Int), .int .u32 (v2.toNat : Int), .int .u32 (v3.toNat : Int), .int .u32 (v4.toNat : Int), .int .u32 (v5.toNat : Int), .int .u32 (v6.toNat : Int), .int .u32 (v7.toNat : Int)] 40 (wf (lstOf ⟨v0, v1, v2, v3, v4, v5, v6, v7⟩)) (fun i hi => by
    show (cellsW (lstOf ⟨v0, v1, v2, v3, v4, v5, v6, v7⟩)).toArray[i]? = _
    rw [List.getElem?_toArray]
    exact cellsW_at (lstOf ⟨v0, v1, v2, v3, v4, v5, v6, v7⟩) i hi)
  unfold Oper.wp
  rw [run]
  exact hK _ _ (k _ (fun _ => ⟨_, rfl, hrow.lt, fun j hj => hrow.cell hj⟩) ((Below.refl _ _).alloc (Nat.le_refl _) _))
theorem alloc8 (w : World) (v0 v1 v2 v3 v4 v5 v6 v7 : W32) :
    RW (w.alloc (.cells #[.int .u32 (v0.toNat : Int), .int .u32 (v1.toNat : Int), .int .u32 (v2.toNat : Int), .int .u32 (v3.toNat : Int), .int .u32 (v4.toNat : Int), .int .u32 (v5.toNat : Int), .int .u32 (v6.toNat : Int), .int .u32 (v7.toNat : Int)] 40)).drew (some ⟨w.heap.size, 0, none⟩) (lstOf ⟨v0, v1, v2, v3, v4, v5, v6, v7⟩) ∧
    Below w.heap.size w (w.alloc (.cells #[.int .u32 (v0.toNat : Int), .int .u32 (v1.toNat : Int), .int .u32 (v2.toNat : Int), .int .u32 (v3.toNat : Int), .int .u32 (v4.toNat : Int), .int .u32 (v5.toNat : Int), .int .u32 (v6.toNat : Int), .int .u32 (v7.toNat : Int)] 40)).drew := by
  have hrow := (World.rowIs_alloc w #[.int .u32 (v0.toNat : Int), .int .u32 (v1.toNat : Int), .int .u32 (v2.toNat : Int), .int .u32 (v3.toNat : Int), .int .u32 (v4.toNat : Int), .int .u32 (v5.toNat : Int), .int .u32 (v6.toNat : Int), .int .u32 (v7.toNat : Int)] 40 (wf (lstOf ⟨v0, v1, v2, v3, v4, v5, v6, v7⟩)) (fun i hi => by
    show (cellsW (lstOf ⟨v0, v1, v2, v3, v4, v5, v6, v7⟩)).toArray[i]? = _
    rw [List.getElem?_toArray]
    exact cellsW_at (lstOf ⟨v0, v1, v2, v3, v4, v5, v6, v7⟩) i hi)).drew
  exact ⟨fun _ => ⟨_, rfl, hrow.lt, fun j hj => hrow.cell hj⟩, ((Below.refl _ _).alloc (Nat.le_refl _) _).drew⟩
theorem bs4 {ops : Array Oper} {rest : List Oper} {act : Act} {w : World} {Q : Exit → Act → World → Prop} {dst : Option Nat} {ty : TypeId} {pos : String} {af : Array Edge} {v0 v1 v2 v3 u0 u1 u2 u3 : Int}
    (h0 : act.eval (.tmp 301) = .int .u8 v0) (h1 : act.eval (.tmp 304) = .int .u8 v1) (h2 : act.eval (.tmp 307) = .int .u8 v2) (h3 : act.eval (.tmp 309) = .int .u8 v3) (e0 : v0 = u0) (e1 : v1 = u1) (e2 : v2 = u2) (e3 : v3 = u3)
    (k : wpList Tryd.prog ops Q rest (act.put dst (.slice (some ⟨w.heap.size, 0, none⟩) 4 4)) (w.alloc (.cells #[.int .u8 u0, .int .u8 u1, .int .u8 u2, .int .u8 u3] 5))) :
    wpList Tryd.prog ops Q ({ dst := dst, op := .buildSlice 22 4 #[(0, .tmp 301), (1, .tmp 304), (2, .tmp 307), (3, .tmp 309)], type := ty, pos := pos, after := af, guard := none } :: rest) act w := by
  subst e0; subst e1; subst e2; subst e3
  refine wpList_plain rfl fun K hK => ?_
  have run : (execOp act.eval { dst := dst, op := .buildSlice 22 4 #[(0, .tmp 301), (1, .tmp 304), (2, .tmp 307), (3, .tmp 309)], type := ty, pos := pos, after := af, guard := none }).run Tryd.prog w = .ok (.value (.slice (some ⟨w.heap.size, 0, none⟩) 4 4)) (w.alloc (.cells #[.int .u8 v0, .int .u8 v1, .int .u8 v2, .int .u8 v3] 5)) := by
    clear k hK
    generalize act.eval = ev at *
    unfold execOp
    go_simp
  unfold Oper.wp
  rw [run]
  exact hK _ _ k
/-- The words of a block, so many of them. -/
def wl (l : List UInt8) (k : Nat) : List W32 := grow (k - 16) (base l (min k 16))
theorem wl_len (l : List UInt8) (k : Nat) : (wl l k).length = k := by
  unfold wl
  rw [grow_len, base_len]
  omega
theorem wl_low (l : List UInt8) (k : Nat) (hk : k < 16) : wl l (k + 1) = wl l k ++ [wordAt l k] := by
  unfold wl
  rw [show k + 1 - 16 = 0 by omega, show k - 16 = 0 by omega, show min (k + 1) 16 = k + 1 by omega, show min k 16 = k by omega]
  exact base_snoc l k
theorem wl_high (l : List UInt8) (k : Nat) (hk : 16 ≤ k) : wl l (k + 1) = wl l k ++ [nextW (wl l k)] := by
  unfold wl
  rw [show k + 1 - 16 = (k - 16) + 1 by omega, show min (k + 1) 16 = 16 by omega, show min k 16 = 16 by omega]
  rfl
theorem wl_end (l : List UInt8) : wl l 64 = sched l := rfl
theorem next_at (ws : List W32) (k : Nat) (h : ws.length = k) : nextW ws = ws.getD (k - 16) 0#32 + sg0 (ws.getD (k - 15) 0#32) + ws.getD (k - 7) 0#32 + sg1 (ws.getD (k - 2) 0#32) := by
  unfold nextW
  rw [h]
  rfl
end Go.Proofs.YtkgmkblcofedbaaDoor
