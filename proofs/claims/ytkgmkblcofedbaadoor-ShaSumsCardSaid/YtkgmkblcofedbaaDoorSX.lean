/-
  The walk of the program's mix. Conditions: as it says.
-/
import Derived.Test.YtkgmkblcofedbaaDoorSN
import Derived.Deep.DeepCutAuto
import Derived.Deep.CutBlock
namespace Go.Proofs.YtkgmkblcofedbaaDoor
open Go.RowKit
open Go.Lib

/-- The two tables lie there. -/
structure Env (w : World) : Prop where
  kc : ∀ j, j < 64 → w.cell? ⟨1, j, none⟩ = some (wf K0 j)
  bc : ∀ j, j < 8 → w.cell? ⟨0, j, none⟩ = some (wf (lstOf H0) j)
  kl : 1 < w.heap.size
  bl : 0 < w.heap.size
theorem Env.below {w w' : World} {B : Nat} (h : Env w) (hb : Below B w w') (h1 : 1 < B) (h2 : 0 < B) : Env w' :=
  ⟨fun j hj => (hb.cell (p := ⟨1, j, none⟩) h1).trans (h.kc j hj), fun j hj => (hb.cell (p := ⟨0, j, none⟩) h2).trans (h.bc j hj), Nat.lt_of_lt_of_le h.kl hb.size, Nat.lt_of_lt_of_le h.bl hb.size⟩
theorem Env.after {w w' : World} (h : Env w) (hb : Below w.heap.size w w') : Env w' := h.below hb h.kl h.bl
theorem ch_xor (e f g : W32) : (e &&& f) ^^^ (~~~e &&& g) = (e &&& f) ||| (~~~e &&& g) := by
  apply BitVec.eq_of_getLsbD_eq
  intro i hi
  simp only [BitVec.getLsbD_xor, BitVec.getLsbD_and, BitVec.getLsbD_not, BitVec.getLsbD_or, hi, decide_true, Bool.true_and]
  cases e.getLsbD i <;> cases f.getLsbD i <;> cases g.getLsbD i <;> rfl
theorem maj_xor (a b c : W32) : (a &&& b) ^^^ (a &&& c) ^^^ (b &&& c) = (a &&& b) ||| (a &&& c) ||| (b &&& c) := by
  apply BitVec.eq_of_getLsbD_eq
  intro i _
  simp only [BitVec.getLsbD_xor, BitVec.getLsbD_and, BitVec.getLsbD_or]
  cases a.getLsbD i <;> cases b.getLsbD i <;> cases c.getLsbD i <;> rfl
theorem rnd_eq (a b c d e f g h k w : W32) : rnd ⟨a, b, c, d, e, f, g, h⟩ k w =
    ⟨(h + ((e &&& f) ^^^ (~~~e &&& g)) + (rotr e 6 ^^^ rotr e 11 ^^^ rotr e 25) + w + k) + (((a &&& b) ^^^ (a &&& c) ^^^ (b &&& c)) + (rotr a 2 ^^^ rotr a 13 ^^^ rotr a 22)), a, b, c, d + (h + ((e &&& f) ^^^ (~~~e &&& g)) + (rotr e 6 ^^^ rotr e 11 ^^^ rotr e 25) + w + k), e, f, g⟩ := by
  have h1 : tOne ⟨a, b, c, d, e, f, g, h⟩ k w = h + ((e &&& f) ^^^ (~~~e &&& g)) + (rotr e 6 ^^^ rotr e 11 ^^^ rotr e 25) + w + k := by
    unfold tOne chs bg1
    simp only [ch_xor]
    ac_rfl
  have h2 : tTwo ⟨a, b, c, d, e, f, g, h⟩ = ((a &&& b) ^^^ (a &&& c) ^^^ (b &&& c)) + (rotr a 2 ^^^ rotr a 13 ^^^ rotr a 22) := by
    unfold tTwo maj bg0
    simp only [maj_xor]
    rw [BitVec.add_comm]
  unfold rnd
  rw [h1, h2]
theorem lst_add (s t : St) (k : Nat) (hk : k < 8) : (lstOf s).getD k 0#32 + (lstOf t).getD k 0#32 = (lstOf (addSt s t)).getD k 0#32 := by
  rcases (by omega : k = 0 ∨ k = 1 ∨ k = 2 ∨ k = 3 ∨ k = 4 ∨ k = 5 ∨ k = 6 ∨ k = 7) with rfl | rfl | rfl | rfl | rfl | rfl | rfl | rfl <;> rfl
theorem lst_len (s : St) : (lstOf s).length = 8 := rfl
theorem zw8_at : ∀ i, i < 8 → (#[.int .u32 0, .int .u32 0, .int .u32 0, .int .u32 0, .int .u32 0, .int .u32 0, .int .u32 0, .int .u32 0] : Array Value)[i]? = some (wf [] i) := by
  intro i hi
  rcases (by omega : i = 0 ∨ i = 1 ∨ i = 2 ∨ i = 3 ∨ i = 4 ∨ i = 5 ∨ i = 6 ∨ i = 7) with rfl | rfl | rfl | rfl | rfl | rfl | rfl | rfl <;> rfl
theorem build8 {ops : Array Oper} {rest : List Oper} {act : Act} {w : World} {Q : Exit → Act → World → Prop} {dst : Option Nat} {ty : TypeId} {pos : String} {af : Array Edge} {v0 v1 v2 v3 v4 v5 v6 v7 : Int}
    (h0 : act.eval (.tmp 103) = .int .u32 v0) (h1 : act.eval (.tmp 104) = .int .u32 v1) (h2 : act.eval (.tmp 105) = .int .u32 v2) (h3 : act.eval (.tmp 106) = .int .u32 v3) (h4 : act.eval (.tmp 107) = .int .u32 v4) (h5 : act.eval (.tmp 108) = .int .u32 v5) (h6 : act.eval (.tmp 109) = .int .u32 v6) (h7 : act.eval (.tmp 110) = .int .u32 v7)
    (k : wpList Tryd.prog ops Q rest (act.put dst (.agg #[.int .u32 v0, .int .u32 v1, .int .u32 v2, .int .u32 v3, .int .u32 v4, .int .u32 v5, .int .u32 v6, .int .u32 v7])) w) :
    wpList Tryd.prog ops Q ({ dst := dst, op := .build 41 #[(0, .tmp 103), (1, .tmp 104), (2, .tmp 105), (3, .tmp 106), (4, .tmp 107), (5, .tmp 108), (6, .tmp 109), (7, .tmp 110)], type := ty, pos := pos, after := af, guard := none } :: rest) act w := by
  refine wpList_plain rfl fun K hK => ?_
  have run : ∀ W, (execOp act.eval { dst := dst, op := .build 41 #[(0, .tmp 103), (1, .tmp 104), (2, .tmp 105), (3, .tmp 106), (4, .tmp 107), (5, .tmp 108), (6, .tmp 109), (7, .tmp 110)], type := ty, pos := pos, after := af, guard := none }).run Tryd.prog W = .ok (.value (.agg #[.int .u32 v0, .int .u32 v1, .int .u32 v2, .int .u32 v3, .int .u32 v4, .int .u32 v5, .int .u32 v6, .int .u32 v7])) W := by
    intro W
    generalize act.eval = ev at *
    unfold execOp
    go_simp
  unfold Oper.wp
  rw [run]
  exact hK _ _ k

set_option maxRecDepth 100000 in
set_option maxHeartbeats 4000000 in
theorem mix_any (s : St) (l : List UInt8) (hl : l.length = 64) (w : World) (hE : Env w) : Calls Tryd.prog 15 #[.agg (cellsW (lstOf s)).toArray, .agg (cellsB l).toArray] w fun e w' => e = .returned (.agg (cellsW (lstOf (comp K0 s l))).toArray) ∧ Below w.heap.size w w' := by
  obtain ⟨w1, hw1⟩ : ∃ w1, w.alloc (.cells (cellsW (lstOf s)).toArray 41) = w1 := ⟨_, rfl⟩
  obtain ⟨w2, hw2⟩ : ∃ w2, w1.alloc (.cells (cellsB l).toArray 46) = w2 := ⟨_, rfl⟩
  obtain ⟨w3, hw3⟩ : ∃ w3, w2.alloc (.cells #[.int .u32 0, .int .u32 0, .int .u32 0, .int .u32 0, .int .u32 0, .int .u32 0, .int .u32 0, .int .u32 0] 41) = w3 := ⟨_, rfl⟩
  have r1 := World.rowIs_alloc w (cellsW (lstOf s)).toArray 41 (wf (lstOf s)) (fun i hi => by
    have hi' : i < (lstOf s).length := by simpa [cellsW_length] using hi
    simpa using cellsW_at (lstOf s) i hi')
  have r2 := World.rowIs_alloc w1 (cellsB l).toArray 46 (bf l) (fun i hi => by
    have hi' : i < l.length := by simpa [cellsB_length] using hi
    simpa using cellsB_at l i hi')
  have r3 := World.rowIs_alloc w2 #[.int .u32 0, .int .u32 0, .int .u32 0, .int .u32 0, .int .u32 0, .int .u32 0, .int .u32 0, .int .u32 0] 41 (wf []) (fun i hi => zw8_at i hi)
  have n2 : (cellsB l).toArray.size = 64 := by simp [cellsB_length, hl]
  have s1 : w1.heap.size = w.heap.size + 1 := by rw [← hw1]; simp
  have s2 : w2.heap.size = w.heap.size + 2 := by rw [← hw2]; simp [s1]
  have s3 : w3.heap.size = w.heap.size + 3 := by rw [← hw3]; simp [s2]
  have hb1 : Below w.heap.size w w1 := by rw [← hw1]; exact (Below.refl _ _).alloc (Nat.le_refl _) _
  have hb2 : Below w.heap.size w w2 := by rw [← hw2]; exact hb1.alloc hb1.size _
  have hb3 : Below w.heap.size w w3 := by rw [← hw3]; exact hb2.alloc hb2.size _
  rw [hw1] at r1
  rw [hw2, s1, n2] at r2
  rw [hw3, s2] at r3
  have q1 : w3.rowIs w.heap.size 41 8 (wf (lstOf s)) := by rw [← hw3, ← hw2]; exact (r1.alloc _).alloc _
  have q2 : w3.rowIs (w.heap.size + 1) 46 64 (bf l) := by rw [← hw3]; exact r2.alloc _
  obtain ⟨ws, hws⟩ : ∃ ws, sched l = ws := ⟨_, rfl⟩
  have SL : ws.length = 64 := by rw [← hws]; exact sched_len l
  have hsch := fun W => schedule_any l hl W
  rw [hws] at hsch
  have HC : ∀ v : St, v = addSt s (rnds K0 ws 64 s) → comp K0 s l = v := fun v hv => by unfold comp; rw [hws, hv]
  obtain ⟨sa, sb, sc, sd, se, sf, sg, sh⟩ := s
  obtain ⟨cw, hcw⟩ : ∃ C, (cellsW (lstOf ⟨sa, sb, sc, sd, se, sf, sg, sh⟩)).toArray = C := ⟨_, rfl⟩
  rw [hcw] at hw1
  rw [hcw]
  have hrb := rowb_range q2 hl
  have HRB := Lib.hid hrb
  have Q1 := Lib.hid q1
  have Q3 := Lib.hid r3
  have HL := Lib.hid hl
  have HSL := Lib.hid SL
  have c0 : w3.cell? ⟨w.heap.size, 0, none⟩ = some (.int .u32 (sa.toNat : Int)) := q1.cell (i := 0) (by decide)
  have c1 : w3.cell? ⟨w.heap.size, 1, none⟩ = some (.int .u32 (sb.toNat : Int)) := q1.cell (i := 1) (by decide)
  have c2 : w3.cell? ⟨w.heap.size, 2, none⟩ = some (.int .u32 (sc.toNat : Int)) := q1.cell (i := 2) (by decide)
  have c3 : w3.cell? ⟨w.heap.size, 3, none⟩ = some (.int .u32 (sd.toNat : Int)) := q1.cell (i := 3) (by decide)
  have c4 : w3.cell? ⟨w.heap.size, 4, none⟩ = some (.int .u32 (se.toNat : Int)) := q1.cell (i := 4) (by decide)
  have c5 : w3.cell? ⟨w.heap.size, 5, none⟩ = some (.int .u32 (sf.toNat : Int)) := q1.cell (i := 5) (by decide)
  have c6 : w3.cell? ⟨w.heap.size, 6, none⟩ = some (.int .u32 (sg.toNat : Int)) := q1.cell (i := 6) (by decide)
  have c7 : w3.cell? ⟨w.heap.size, 7, none⟩ = some (.int .u32 (sh.toNat : Int)) := q1.cell (i := 7) (by decide)
  have x0 : ∀ W, (Instr.indexAt 41 (.pointer (some ⟨w.heap.size, 0, none⟩)) (.int .i64 0)).run Tryd.prog W = .ok (.pointer (some ⟨w.heap.size, 0, none⟩)) W := fun W => ix_at W _ _ 8 _ _ 0 Tryd.underlying41 (size_u32 W) rfl (by decide)
  have x1 : ∀ W, (Instr.indexAt 41 (.pointer (some ⟨w.heap.size, 0, none⟩)) (.int .i64 1)).run Tryd.prog W = .ok (.pointer (some ⟨w.heap.size, 1, none⟩)) W := fun W => ix_at W _ _ 8 _ _ 1 Tryd.underlying41 (size_u32 W) rfl (by decide)
  have x2 : ∀ W, (Instr.indexAt 41 (.pointer (some ⟨w.heap.size, 0, none⟩)) (.int .i64 2)).run Tryd.prog W = .ok (.pointer (some ⟨w.heap.size, 2, none⟩)) W := fun W => ix_at W _ _ 8 _ _ 2 Tryd.underlying41 (size_u32 W) rfl (by decide)
  have x3 : ∀ W, (Instr.indexAt 41 (.pointer (some ⟨w.heap.size, 0, none⟩)) (.int .i64 3)).run Tryd.prog W = .ok (.pointer (some ⟨w.heap.size, 3, none⟩)) W := fun W => ix_at W _ _ 8 _ _ 3 Tryd.underlying41 (size_u32 W) rfl (by decide)
  have x4 : ∀ W, (Instr.indexAt 41 (.pointer (some ⟨w.heap.size, 0, none⟩)) (.int .i64 4)).run Tryd.prog W = .ok (.pointer (some ⟨w.heap.size, 4, none⟩)) W := fun W => ix_at W _ _ 8 _ _ 4 Tryd.underlying41 (size_u32 W) rfl (by decide)
  have x5 : ∀ W, (Instr.indexAt 41 (.pointer (some ⟨w.heap.size, 0, none⟩)) (.int .i64 5)).run Tryd.prog W = .ok (.pointer (some ⟨w.heap.size, 5, none⟩)) W := fun W => ix_at W _ _ 8 _ _ 5 Tryd.underlying41 (size_u32 W) rfl (by decide)
  have x6 : ∀ W, (Instr.indexAt 41 (.pointer (some ⟨w.heap.size, 0, none⟩)) (.int .i64 6)).run Tryd.prog W = .ok (.pointer (some ⟨w.heap.size, 6, none⟩)) W := fun W => ix_at W _ _ 8 _ _ 6 Tryd.underlying41 (size_u32 W) rfl (by decide)
  have x7 : ∀ W, (Instr.indexAt 41 (.pointer (some ⟨w.heap.size, 0, none⟩)) (.int .i64 7)).run Tryd.prog W = .ok (.pointer (some ⟨w.heap.size, 7, none⟩)) W := fun W => ix_at W _ _ 8 _ _ 7 Tryd.underlying41 (size_u32 W) rfl (by decide)
  clear r1 r2 r3 q1 q2 s3 hb1 hb2 hl n2 hws hrb SL hcw
  go_enter Tryd.func15, Tryd.ntmps15
  go_wp2
  clear hw1 hw2 hw3 s1 s2
  go_quiet (fail)
  have p1 : (w3.drewN nq).rowIs w.heap.size 41 8 (wf (lstOf ⟨sa, sb, sc, sd, se, sf, sg, sh⟩)) := Q1.out
  have p3 : (w3.drewN nq).rowIs (w.heap.size + 2) 41 8 (wf []) := Q3.out
  have hrb : (w3.drewN nq).rangeAt (w.heap.size + 1) 0 (cellsB l) := HRB.out
  have hbV : Below w.heap.size w (w3.drewN nq) := below_drewN hb3 _
  replace c4 : (w3.drewN nq).cell? ⟨w.heap.size, 4, none⟩ = _ := c4
  replace c5 : (w3.drewN nq).cell? ⟨w.heap.size, 5, none⟩ = _ := c5
  replace c6 : (w3.drewN nq).cell? ⟨w.heap.size, 6, none⟩ = _ := c6
  replace c7 : (w3.drewN nq).cell? ⟨w.heap.size, 7, none⟩ = _ := c7
  have P1 := Lib.hid p1
  have P3 := Lib.hid p3
  replace HRB := Lib.hid hrb
  clear c0 c1 c2 c3 Q1 Q3 hb3 p1 p3 hrb x0 x1 x2 x3
  generalize w3.drewN nq = V1 at *
  go_wp2
  go_quiet (fail)
  have p1 : (V1.drewN nq).rowIs w.heap.size 41 8 (wf (lstOf ⟨sa, sb, sc, sd, se, sf, sg, sh⟩)) := P1.out
  have p3 : (V1.drewN nq).rowIs (w.heap.size + 2) 41 8 (wf []) := P3.out
  have hrb : (V1.drewN nq).rangeAt (w.heap.size + 1) 0 (cellsB l) := HRB.out
  have hbW : Below w.heap.size w (V1.drewN nq) := below_drewN hbV _
  replace P1 := Lib.hid p1
  replace P3 := Lib.hid p3
  replace HRB := Lib.hid hrb
  clear c4 c5 c6 c7 hbV p1 p3 hrb x4 x5 x6 x7
  generalize V1.drewN nq = V2 at *
  obtain ⟨cs, hcs⟩ : ∃ C, (cellsW ws).toArray = C := ⟨_, rfl⟩
  rw [hcs] at hsch
  have HCS := Lib.hid hcs
  clear hcs
  go_wp2_with (first | (guard_target =~ Go.wpList _ _ _ ({ dst := _, op := Go.Op.load 46 _, type := _, pos := _, after := _, guard := none } :: _) _ _; refine wpList_load_mid rfl 46 (.tmp 3) rfl (w.heap.size + 1) 0 rfl (cellsB l) _ HRB.out Tryd.underlying46 rfl (by rw [cellsB_length, HL.out]; kernel_rfl) ?_) | (go_at_call 21; refine (hsch _).mono ?_; rintro e V3 ⟨rfl, hb3⟩))
  have hsz3 := P3.out.lt
  have p1 : V3.rowIs w.heap.size 41 8 (wf (lstOf ⟨sa, sb, sc, sd, se, sf, sg, sh⟩)) := P1.out.of_block (hb3.block _ (by omega))
  have p3 : V3.rowIs (w.heap.size + 2) 41 8 (wf []) := P3.out.of_block (hb3.block _ (by omega))
  have hbX : Below w.heap.size w V3 := hbW.trans (hb3.mono (by omega))
  clear P1 P3 HRB hbW hb3 hsz3 hsch
  go_loopw [5, 6, 7, 8, 9, 10, 11, 12, 39] (fun ta tb tc td te tf tg th i wr => ∃ (k : Nat) (a b c d e f g h : W32), k ≤ 64 ∧ i = .int .i64 k ∧ Hid (rnds K0 ws k ⟨sa, sb, sc, sd, se, sf, sg, sh⟩ = ⟨a, b, c, d, e, f, g, h⟩) ∧ ta = .int .u32 (a.toNat : Int) ∧ tb = .int .u32 (b.toNat : Int) ∧ tc = .int .u32 (c.toNat : Int) ∧ td = .int .u32 (d.toNat : Int) ∧ te = .int .u32 (e.toNat : Int) ∧ tf = .int .u32 (f.toNat : Int) ∧ tg = .int .u32 (g.toNat : Int) ∧ th = .int .u32 (h.toNat : Int) ∧ wr.rowIs w.heap.size 41 8 (wf (lstOf ⟨sa, sb, sc, sd, se, sf, sg, sh⟩)) ∧ wr.rowIs (w.heap.size + 2) 41 8 (wf []) ∧ Below w.heap.size w wr) (fun _ _ _ _ _ _ _ _ i _ => 64 - (RowKit.intOf i).toNat)
  case atStart => exact ⟨0, sa, sb, sc, sd, se, sf, sg, sh, by omega, rfl, rfl, rfl, rfl, rfl, rfl, rfl, rfl, rfl, rfl, p1, p3, hbX⟩
  case round =>
    clear p1 p3 hbX
    obtain ⟨k, a, b, c, d, e, f, g, h, hk, rfl, hst, rfl, rfl, rfl, rfl, rfl, rfl, rfl, rfl, p1, p3, hbr⟩ := hrel
    by_cases hlt : k < 64
    · have hEr := hE.after hbr
      have ck := hEr.kc k hlt
      obtain ⟨kk, hkk⟩ : ∃ x, K0.getD k 0#32 = x := ⟨_, rfl⟩
      obtain ⟨wk, hwk⟩ : ∃ x, ws.getD k 0#32 = x := ⟨_, rfl⟩
      rw [wf_get hkk] at ck
      have xk : ∀ W, (Instr.indexAt 58 (.pointer (some ⟨1, 0, none⟩)) (.int .i64 (k : Int))).run Tryd.prog W = .ok (.pointer (some ⟨1, k, none⟩)) W := fun W => ix_at W _ _ 64 _ _ k Tryd.underlying58 (size_u32 W) rfl hlt
      have xv : ∀ W, (Instr.index 58 (.agg cs) (.int .i64 (k : Int))).run Tryd.prog W = .ok (.int .u32 (wk.toNat : Int)) W := fun W => by
        rw [← HCS.out]
        have hv : (cellsW ws)[k]? = some (.int .u32 (wk.toNat : Int)) := by rw [cellsW_at ws k (by rw [HSL.out]; exact hlt), wf_get hwk]
        exact ix_val W _ _ 64 _ _ k _ Tryd.underlying58 (size_u32 W) rfl hlt (part_u32 W _ k _ hv)
      obtain ⟨AE, hAE⟩ : ∃ R : W32, e &&& f = R := ⟨_, rfl⟩
      have fAE := w_and e f
      rw [hAE] at fAE
      obtain ⟨NE, hNE⟩ : ∃ R : W32, ~~~e = R := ⟨_, rfl⟩
      have fNE := w_notm e
      rw [hNE] at fNE
      obtain ⟨AG, hAG⟩ : ∃ R : W32, NE &&& g = R := ⟨_, rfl⟩
      have fAG := w_and NE g
      rw [hAG] at fAG
      obtain ⟨CH, hCH⟩ : ∃ R : W32, AE ^^^ AG = R := ⟨_, rfl⟩
      have fCH := w_xor AE AG
      rw [hCH] at fCH
      obtain ⟨AB, hAB⟩ : ∃ R : W32, a &&& b = R := ⟨_, rfl⟩
      have fAB := w_and a b
      rw [hAB] at fAB
      obtain ⟨AC, hAC⟩ : ∃ R : W32, a &&& c = R := ⟨_, rfl⟩
      have fAC := w_and a c
      rw [hAC] at fAC
      obtain ⟨M1, hM1⟩ : ∃ R : W32, AB ^^^ AC = R := ⟨_, rfl⟩
      have fM1 := w_xor AB AC
      rw [hM1] at fM1
      obtain ⟨BC, hBC⟩ : ∃ R : W32, b &&& c = R := ⟨_, rfl⟩
      have fBC := w_and b c
      rw [hBC] at fBC
      obtain ⟨MJ, hMJ⟩ : ∃ R : W32, M1 ^^^ BC = R := ⟨_, rfl⟩
      have fMJ := w_xor M1 BC
      rw [hMJ] at fMJ
      obtain ⟨R6, hR6⟩ : ∃ R : W32, rotr e 6 = R := ⟨_, rfl⟩
      obtain ⟨R11, hR11⟩ : ∃ R : W32, rotr e 11 = R := ⟨_, rfl⟩
      obtain ⟨R25, hR25⟩ : ∃ R : W32, rotr e 25 = R := ⟨_, rfl⟩
      obtain ⟨R2, hR2⟩ : ∃ R : W32, rotr a 2 = R := ⟨_, rfl⟩
      obtain ⟨R13, hR13⟩ : ∃ R : W32, rotr a 13 = R := ⟨_, rfl⟩
      obtain ⟨R22, hR22⟩ : ∃ R : W32, rotr a 22 = R := ⟨_, rfl⟩
      obtain ⟨X1, hX1⟩ : ∃ R : W32, R6 ^^^ R11 = R := ⟨_, rfl⟩
      have fX1 := w_xor R6 R11
      rw [hX1] at fX1
      obtain ⟨SE, hSE⟩ : ∃ R : W32, X1 ^^^ R25 = R := ⟨_, rfl⟩
      have fSE := w_xor X1 R25
      rw [hSE] at fSE
      obtain ⟨X2, hX2⟩ : ∃ R : W32, R2 ^^^ R13 = R := ⟨_, rfl⟩
      have fX2 := w_xor R2 R13
      rw [hX2] at fX2
      obtain ⟨SA, hSA⟩ : ∃ R : W32, X2 ^^^ R22 = R := ⟨_, rfl⟩
      have fSA := w_xor X2 R22
      rw [hSA] at fSA
      obtain ⟨L1, hL1⟩ : ∃ R : W32, h + CH = R := ⟨_, rfl⟩
      have fL1 := w_addw h CH
      rw [hL1] at fL1
      have gL1 := w_add h CH
      rw [hL1] at gL1
      obtain ⟨L2, hL2⟩ : ∃ R : W32, L1 + SE = R := ⟨_, rfl⟩
      have fL2 := w_addw L1 SE
      rw [hL2] at fL2
      have gL2 := w_add L1 SE
      rw [hL2] at gL2
      obtain ⟨L3, hL3⟩ : ∃ R : W32, L2 + wk = R := ⟨_, rfl⟩
      have fL3 := w_addw L2 wk
      rw [hL3] at fL3
      have gL3 := w_add L2 wk
      rw [hL3] at gL3
      obtain ⟨LT, hLT⟩ : ∃ R : W32, L3 + kk = R := ⟨_, rfl⟩
      have fLT := w_addw L3 kk
      rw [hLT] at fLT
      have gLT := w_add L3 kk
      rw [hLT] at gLT
      obtain ⟨EA, hEA⟩ : ∃ R : W32, MJ + SA = R := ⟨_, rfl⟩
      have fEA := w_addw MJ SA
      rw [hEA] at fEA
      have gEA := w_add MJ SA
      rw [hEA] at gEA
      obtain ⟨NA, hNA⟩ : ∃ R : W32, LT + EA = R := ⟨_, rfl⟩
      have fNA := w_addw LT EA
      rw [hNA] at fNA
      have gNA := w_add LT EA
      rw [hNA] at gNA
      obtain ⟨ND, hND⟩ : ∃ R : W32, d + LT = R := ⟨_, rfl⟩
      have fND := w_addw d LT
      rw [hND] at fND
      have gND := w_add d LT
      rw [hND] at gND
      have T6 : ∀ W, Calls Tryd.prog 22 #[.int .u32 (e.toNat : Int), .int .i64 6] W (fun e w' => e = .returned (.int .u32 (R6.toNat : Int)) ∧ w' = W) := fun W => by rw [← hR6]; exact (turn_any e 6 W (by decide) (by decide)).mono (fun _ _ h => ⟨h.1, h.2.symm⟩)
      have T11 : ∀ W, Calls Tryd.prog 22 #[.int .u32 (e.toNat : Int), .int .i64 11] W (fun e w' => e = .returned (.int .u32 (R11.toNat : Int)) ∧ w' = W) := fun W => by rw [← hR11]; exact (turn_any e 11 W (by decide) (by decide)).mono (fun _ _ h => ⟨h.1, h.2.symm⟩)
      have T25 : ∀ W, Calls Tryd.prog 22 #[.int .u32 (e.toNat : Int), .int .i64 25] W (fun e w' => e = .returned (.int .u32 (R25.toNat : Int)) ∧ w' = W) := fun W => by rw [← hR25]; exact (turn_any e 25 W (by decide) (by decide)).mono (fun _ _ h => ⟨h.1, h.2.symm⟩)
      have T2 : ∀ W, Calls Tryd.prog 22 #[.int .u32 (a.toNat : Int), .int .i64 2] W (fun e w' => e = .returned (.int .u32 (R2.toNat : Int)) ∧ w' = W) := fun W => by rw [← hR2]; exact (turn_any a 2 W (by decide) (by decide)).mono (fun _ _ h => ⟨h.1, h.2.symm⟩)
      have T13 : ∀ W, Calls Tryd.prog 22 #[.int .u32 (a.toNat : Int), .int .i64 13] W (fun e w' => e = .returned (.int .u32 (R13.toNat : Int)) ∧ w' = W) := fun W => by rw [← hR13]; exact (turn_any a 13 W (by decide) (by decide)).mono (fun _ _ h => ⟨h.1, h.2.symm⟩)
      have T22 : ∀ W, Calls Tryd.prog 22 #[.int .u32 (a.toNat : Int), .int .i64 22] W (fun e w' => e = .returned (.int .u32 (R22.toNat : Int)) ∧ w' = W) := fun W => by rw [← hR22]; exact (turn_any a 22 W (by decide) (by decide)).mono (fun _ _ h => ⟨h.1, h.2.symm⟩)
      have HN := Lib.hid (show rnd ⟨a, b, c, d, e, f, g, h⟩ kk wk = ⟨NA, a, b, c, ND, e, f, g⟩ by rw [rnd_eq, hAE, hNE, hAG, hCH, hAB, hAC, hM1, hBC, hMJ, hR6, hR11, hR25, hX1, hSE, hR2, hR13, hR22, hX2, hSA, hL1, hL2, hL3, hLT, hEA, hNA, hND])
      have HST : ∀ v : St, v = ⟨NA, a, b, c, ND, e, f, g⟩ → rnds K0 ws (k + 1) ⟨sa, sb, sc, sd, se, sf, sg, sh⟩ = v := fun v hv => by rw [hv, ← HN.out, ← hkk, ← hwk, ← hst.out]; rfl
      clear HN hkk hwk hst hEr
      clear hAE hNE hAG hCH hAB hAC hM1 hBC hMJ hR6 hR11 hR25 hR2 hR13 hR22 hX1 hSE hX2 hSA hL1 hL2 hL3 hLT hEA hNA hND
      go_wp2
      go_quiet ((first | (go_at_call 22; with_reducible exact Calls.quiet_of_same (T6 _)) | (go_at_call 22; with_reducible exact Calls.quiet_of_same (T11 _)) | (go_at_call 22; with_reducible exact Calls.quiet_of_same (T25 _))))
      have q1 : (wr.drewN nq).rowIs w.heap.size 41 8 (wf (lstOf ⟨sa, sb, sc, sd, se, sf, sg, sh⟩)) := p1
      have q3 : (wr.drewN nq).rowIs (w.heap.size + 2) 41 8 (wf []) := p3
      have hbq : Below w.heap.size w (wr.drewN nq) := below_drewN hbr _
      clear p1 p3 hbr ck
      generalize wr.drewN nq = V4 at *
      go_wp2_with (first | (go_at_call 22; (with_reducible refine (T2 _).mono ?_); rintro e w' ⟨rfl, rfl⟩) | (go_at_call 22; (with_reducible refine (T13 _).mono ?_); rintro e w' ⟨rfl, rfl⟩) | (go_at_call 22; (with_reducible refine (T22 _).mono ?_); rintro e w' ⟨rfl, rfl⟩))
      go_roundw
      case rel => exact ⟨k + 1, NA, a, b, c, ND, e, f, g, by omega, by go_num, HST _ rfl, rfl, rfl, rfl, rfl, rfl, rfl, rfl, rfl, q1, q3, hbq⟩
      case measure => simp [RowKit.intOf]; omega
    · have hk64 : k = 64 := by omega
      obtain ⟨v, hv⟩ : ∃ v, comp K0 ⟨sa, sb, sc, sd, se, sf, sg, sh⟩ l = v := ⟨_, rfl⟩
      have hcv := HC _ rfl
      rw [← hk64, hst.out] at hcv
      have hsum : ∀ j, j < 8 → (lstOf ⟨sa, sb, sc, sd, se, sf, sg, sh⟩).getD j 0#32 + (lstOf ⟨a, b, c, d, e, f, g, h⟩).getD j 0#32 = (lstOf v).getD j 0#32 := fun j hj => by rw [lst_add _ _ j hj, ← hv, hcv]
      have HV2 : ∀ u : St, u = v → comp K0 ⟨sa, sb, sc, sd, se, sf, sg, sh⟩ l = u := fun u hu => by rw [hv, hu]
      clear hst HC hcv hk64 hE
      clear hv
      obtain ⟨VL, hVL⟩ : ∃ X, lstOf v = X := ⟨_, rfl⟩
      have hvl : VL.length = 8 := by rw [← hVL]; rfl
      rw [hVL] at hsum
      have HVL : ∀ u : List W32, u = VL → lstOf v = u := fun u hu => by rw [hVL, hu]
      obtain ⟨SL, hSL⟩ : ∃ X, lstOf ⟨sa, sb, sc, sd, se, sf, sg, sh⟩ = X := ⟨_, rfl⟩
      rw [hSL] at hsum p1
      have HTL := Lib.hid hvl
      clear hVL hvl hSL
      go_wp2_with (guard_target =~ Go.wpList _ _ _ ({ dst := _, op := Go.Op.build _ _, type := _, pos := _, after := _, guard := none } :: _) _ _; refine build8 rfl rfl rfl rfl rfl rfl rfl rfl ?_)
      go_loopw [112] (fun i wr => ∃ k : Nat, k ≤ 8 ∧ i = .int .i64 k ∧ wr.rowIs w.heap.size 41 8 (fun j => if j < k then wf VL j else wf SL j) ∧ wr.rowIs (w.heap.size + 2) 41 8 (wf []) ∧ Below w.heap.size w wr) (fun i _ => 8 - (RowKit.intOf i).toNat)
      case atStart => exact ⟨0, by omega, rfl, p1.congr (fun i _ => by simp), p3, hbr⟩
      case round =>
        clear p1 p3 hbr hk hlt
        obtain ⟨j, hj, rfl, p1, p3, hbr⟩ := hrel
        by_cases hjl : j < 8
        · have hs := hsum j hjl
          obtain ⟨x, hx⟩ : ∃ x, SL.getD j 0#32 = x := ⟨_, rfl⟩
          obtain ⟨y, hy⟩ : ∃ y, (lstOf ⟨a, b, c, d, e, f, g, h⟩).getD j 0#32 = y := ⟨_, rfl⟩
          obtain ⟨z, hz⟩ : ∃ z, VL.getD j 0#32 = z := ⟨_, rfl⟩
          rw [hx, hy, hz] at hs
          have hadd := w_add x y
          have haddw := w_addw x y
          rw [hs] at hadd haddw
          have cj := p1.cell hjl
          rw [if_neg (Nat.lt_irrefl j), wf_get hx] at cj
          have fj := p1.frozen j
          have xj : ∀ W, (Instr.indexAt 41 (.pointer (some ⟨w.heap.size, 0, none⟩)) (.int .i64 (j : Int))).run Tryd.prog W = .ok (.pointer (some ⟨w.heap.size, j, none⟩)) W := fun W => ix_at W _ _ 8 _ _ j Tryd.underlying41 (size_u32 W) rfl hjl
          have xv : ∀ W, (Instr.index 41 (.agg #[.int .u32 (a.toNat : Int), .int .u32 (b.toNat : Int), .int .u32 (c.toNat : Int), .int .u32 (d.toNat : Int), .int .u32 (e.toNat : Int), .int .u32 (f.toNat : Int), .int .u32 (g.toNat : Int), .int .u32 (h.toNat : Int)]) (.int .i64 (j : Int))).run Tryd.prog W = .ok (.int .u32 (y.toNat : Int)) W := fun W => by
            have hv : (cellsW (lstOf ⟨a, b, c, d, e, f, g, h⟩))[j]? = some (.int .u32 (y.toNat : Int)) := by rw [cellsW_at _ j (by rw [lst_len]; exact hjl), wf_get hy]
            exact ix_val W _ _ 8 (cellsW (lstOf ⟨a, b, c, d, e, f, g, h⟩)) _ j _ Tryd.underlying41 (size_u32 W) rfl hjl (part_u32 W _ j _ hv)
          have HZ := Lib.hid (wf_get hz)
          clear hx hy hz hs
          go_wp2
          go_roundw
          case rel => exact ⟨j + 1, by omega, by go_num, row_step2 p1 (HZ.out.symm), p3.setOther (a := ⟨w.heap.size, j, none⟩) (by simp) _, hbr.setCell (p := ⟨w.heap.size, j, none⟩) (Nat.le_refl _) _⟩
          case measure => simp [RowKit.intOf]; omega
        · have hge : 8 ≤ j := by omega
          have p1' : wr.rowIs w.heap.size 41 8 (wf VL) := p1.congr (fun i hi => by rw [if_pos (by omega)])
          have hrg := roww_range p1' HTL.out
          have HR := Lib.hid hrg
          clear hrg p1 p1' hsum
          go_wp2_with (first | (guard_target =~ Go.wpList _ _ _ ({ dst := _, op := Go.Op.load 41 _, type := _, pos := _, after := _, guard := none } :: _) _ _; refine wpList_load_mid rfl 41 (.tmp 2) rfl w.heap.size 0 rfl (cellsW VL) _ HR.out Tryd.underlying41 rfl (by rw [cellsW_length, HTL.out]; kernel_rfl) ?_) | (guard_target =~ Go.wpList _ _ _ ({ dst := none, op := Go.Op.store 41 _ _, type := _, pos := _, after := _, guard := none } :: _) _ _; refine wpList_store_row rfl rfl 41 (.tmp 4) (.tmp 123) rfl (w.heap.size + 2) 41 8 (wf []) (wf VL) (cellsW VL) rfl rfl p3 (by rw [cellsW_length, HTL.out]) (by kernel_rfl) (cellsW_one _) (fun j hj => cellsW_at _ j (by rw [HTL.out]; exact hj)) ?_))
          intro w' p3' hg'
          have hb' : Below w.heap.size w w' := hbr.grown hg' hbr.size (fun k hk => by cases hk; omega)
          have hld := run_loadVar_mid w' (w.heap.size + 2) 0 41 (cellsW VL) _ (roww_range p3' HTL.out) Tryd.underlying41 rfl (by rw [cellsW_length, HTL.out]; kernel_rfl)
          clear p3 p3' hbr hg' HR
          go_wp2
          refine bodyPost_ret (v := .agg (cellsW VL).toArray) ?_ rfl ⟨by rw [HV2 v rfl, HVL VL rfl], hb'⟩
          simp [results, Tryd.results15, asAddr, hld]
end Go.Proofs.YtkgmkblcofedbaaDoor
