/-
  The program's member: the region that draws its order (a value is put behind the values), as a law over any frame. No conditions.
-/
import Derived.Test.YtchgelfomnbpaaaDoorZ20
import Derived.Deep.RegionLaw
import Derived.Deep.RegionHeld3
namespace Go.Proofs.YtchgelfomnbpaaaDoor
open Go.RowKit
open Go.Lib

theorem ev_same {a : Act} {n : Nat} {v : Value} (h : n < a.tmps.size) : (a.put (some n) v).eval (.tmp n) = v := by
  simp [Act.put, Act.eval, h]
theorem ev_oth {a : Act} {n m : Nat} {v : Value} (h : n ≠ m) : (a.put (some n) v).eval (.tmp m) = a.eval (.tmp m) := by
  simp [Act.put, Act.eval, h]
theorem sz_put {a : Act} {n : Nat} {v : Value} : (a.put (some n) v).tmps.size = a.tmps.size := by simp [Act.put]
section
variable {P : Program} {ops : Array Oper} {S : World → Prop} {a : Act}
theorem y_move {dst : Option Nat} {ty : TypeId} {pos : String} {af : Array Edge} {s : Nat} {v : Value} (h : a.eval (.tmp s) = v) :
    YieldsIf P ops S { dst := dst, op := .move (.tmp s), type := ty, pos := pos, after := af, guard := none } v a := by
  refine Or.inl ⟨rfl, fun W _ => ?_⟩
  generalize a.eval = ev at *
  simp [execOp, h]
theorem y_nil {dst : Option Nat} {ty : TypeId} {pos : String} {af : Array Edge} {s b o : Nat} (h : a.eval (.tmp s) = .pointer (some ⟨b, o, none⟩)) :
    YieldsIf P ops S { dst := dst, op := .nilCheck (.tmp s), type := ty, pos := pos, after := af, guard := none } (.pointer (some ⟨b, o, none⟩)) a := by
  refine Or.inl ⟨rfl, fun W _ => ?_⟩
  generalize a.eval = ev at *
  go_simp
theorem y_fld {dst : Option Nat} {ty : TypeId} {pos : String} {af : Array Edge} {s b : Nat} (h : a.eval (.tmp s) = .pointer (some ⟨b, 0, none⟩)) :
    YieldsIf Tryd.prog ops S { dst := dst, op := .fieldAddr 28 (.tmp s) 3, type := ty, pos := pos, after := af, guard := none } (.pointer (some ⟨b, 3, none⟩)) a := by
  refine Or.inl ⟨rfl, fun W _ => ?_⟩
  generalize a.eval = ev at *
  go_simp
theorem y_ld4 {dst : Option Nat} {ty : TypeId} {pos : String} {af : Array Edge} {s b : Nat} {x0 x1 x2 x3 : Value} (h : a.eval (.tmp s) = .pointer (some ⟨b, 0, none⟩)) :
    YieldsIf Tryd.prog ops (fun W => J4 b x0 x1 x2 x3 W) { dst := dst, op := .load 28 (.tmp s), type := ty, pos := pos, after := af, guard := none } (.agg #[x0, x1, x2, x3]) a := by
  refine Or.inl ⟨rfl, fun W hW => ?_⟩
  generalize a.eval = ev at *
  have := run_loadAt_mid (P := Tryd.prog) W b 0 28 [x0, x1, x2, x3] _ (J4.range hW) Tryd.underlying28 rfl (by kernel_rfl)
  simp [execOp, h, this]
theorem y_lenV {dst : Option Nat} {pos : String} {af : Array Edge} {s : Nat} {A : Option Addr} {N c : Nat} (h : a.eval (.tmp s) = .slice A N c) :
    YieldsIf Tryd.prog ops S { dst := dst, op := .call { callee := .builtin .len, args := #[.tmp s], argTypes := #[26] }, type := 3, pos := pos, after := af, guard := none } (.int .i64 (N : Int)) a := by
  refine Or.inl ⟨rfl, fun W _ => ?_⟩
  generalize a.eval = ev at *
  go_simp
theorem size_j (w : World) : (sizeOf 28).run Tryd.prog w = .ok 4 w := by
  have h : (Tryd.prog.info? 28).map (fun i => i.size) = some 4 := by kernel_rfl
  cases hi : Tryd.prog.info? 28 with
  | none => rw [hi] at h; cases h
  | some i => rw [hi] at h; simp at h; simp [sizeOf, typeInfo, hi, h]
theorem y_ixV {dst : Option Nat} {ty : TypeId} {pos : String} {af : Array Edge} {s t g N c k : Nat} (h : a.eval (.tmp s) = .slice (some ⟨g, 0, none⟩) N c) (h2 : a.eval (.tmp t) = .int .i64 (k : Int)) (hk : k < N) :
    YieldsIf Tryd.prog ops S { dst := dst, op := .indexAddr 26 (.tmp s) (.tmp t), type := ty, pos := pos, after := af, guard := none } (.pointer (some ⟨g, k * 4, none⟩)) a := by
  refine Or.inl ⟨rfl, fun W _ => ?_⟩
  generalize a.eval = ev at *
  have hb : (0 : Int) ≤ (k : Int) ∧ (k : Int) < (N : Int) := by omega
  have hr : (Instr.indexAt 26 (.slice (some ⟨g, 0, none⟩) N c) (.int .i64 (k : Int))).run Tryd.prog W = .ok (.pointer (some ⟨g, k * 4, none⟩)) W := by
    simp [Instr.indexAt, run_underlying Tryd.underlying26, asIntOf, hb, Addr.add_mid]
    try omega
  simp [execOp, h, h2, hr]
variable {o : Oper} {K : Act → World → Prop} {Q : Exit → Act → World → Prop} {E : Prop}
theorem step_zero (hgd : o.guard = none) (ho : o.op = .buildSlice 26 1 #[(0, .const (.agg #[.int .i64 0, .string ⟨#[]⟩, .slice none 0 0, .slice none 0 0]))]) (w : World)
    (h : K (a.put o.dst (.slice (some ⟨w.heap.size, 0, none⟩) 1 1)) (w.alloc (.cells #[.int .i64 0, .string ⟨#[]⟩, .slice none 0 0, .slice none 0 0] 28 (0, 0)))) :
    if Region.wanted o (yielded ops a.tmps) = true then Oper.wp Tryd.prog o a w K Q else E := by
  have hw : Region.wanted o (yielded ops a.tmps) = true := by simp [Region.wanted, hgd]
  rw [if_pos hw]
  unfold Oper.wp
  have run : (execOp a.eval o).run Tryd.prog w = .ok (.value (.slice (some ⟨w.heap.size, 0, none⟩) 1 1)) (w.alloc (.cells #[.int .i64 0, .string ⟨#[]⟩, .slice none 0 0, .slice none 0 0] 28 (0, 0))) := by
    clear h hw
    unfold execOp
    rw [ho]
    have hcst : a.eval (.const (.agg #[.int .i64 0, .string ⟨#[]⟩, .slice none 0 0, .slice none 0 0])) = .agg #[.int .i64 0, .string ⟨#[]⟩, .slice none 0 0, .slice none 0 0] := rfl
    generalize a.eval = ev at *
    go_simp
  rw [run]
  exact h
theorem step_ldL (hgd : o.guard = none) (t : Nat) (ho : o.op = .load 26 (.tmp t)) (w : World) {b k : Nat} {v : Value} (hx : a.eval (.tmp t) = .pointer (some ⟨b, k, none⟩)) (hc : w.cell? ⟨b, k, none⟩ = some v) (h1 : v.oneCell' = true) (hs : ∃ A n c, v = .slice A n c)
    (h : K (a.put o.dst v) w) : if Region.wanted o (yielded ops a.tmps) = true then Oper.wp Tryd.prog o a w K Q else E := by
  have hw : Region.wanted o (yielded ops a.tmps) = true := by simp [Region.wanted, hgd]
  rw [if_pos hw]
  unfold Oper.wp
  obtain ⟨A, n, c, rfl⟩ := hs
  have run : (execOp a.eval o).run Tryd.prog w = .ok (.value (.slice A n c)) w := by
    clear h hw
    unfold execOp
    rw [ho]
    generalize a.eval = ev at *
    go_simp
  rw [run]
  exact h
theorem step_stL (hgd : o.guard = none) (t u : Nat) (ho : o.op = .store 26 (.tmp t) (.tmp u)) (hd : o.dst = none) (w : World) {b k : Nat} {v old : Value} (hx : a.eval (.tmp t) = .pointer (some ⟨b, k, none⟩)) (hy : a.eval (.tmp u) = v) (hc : w.cell? ⟨b, k, none⟩ = some old) (hf : w.frozen? ⟨b, k, none⟩ = false) (hs : ∃ A n c, v = .slice A n c)
    (h : K a (w.setCell ⟨b, k, none⟩ v)) : if Region.wanted o (yielded ops a.tmps) = true then Oper.wp Tryd.prog o a w K Q else E := by
  have hw : Region.wanted o (yielded ops a.tmps) = true := by simp [Region.wanted, hgd]
  rw [if_pos hw]
  obtain ⟨A, n, c, rfl⟩ := hs
  have e0 : (⟨b, k, none⟩ : Addr).add 0 = ⟨b, k, none⟩ := by simp [Addr.add]
  have hst := run_store Tryd.prog w ⟨b, k, none⟩ (.slice A n c) .plain rfl
  rw [hc] at hst
  simp only [hf] at hst
  have hT : (Go.sizeOf 26).run Tryd.prog w = .ok 1 w := by
    have h : (Tryd.prog.info? 26).map (fun i => i.size) = some 1 := by kernel_rfl
    cases hi : Tryd.prog.info? 26 with
    | none => rw [hi] at h; cases h
    | some i => rw [hi] at h; simp at h; simp [sizeOf, typeInfo, hi, h]
  have hr : (Instr.storeAt 26 (.pointer (some ⟨b, k, none⟩)) (.slice A n c)).run Tryd.prog w = .ok () (w.setCell ⟨b, k, none⟩ (.slice A n c)) := by
    have hcl : (Value.slice A n c).cells = #[.slice A n c] := rfl
    simp [Instr.storeAt, Instr.sureAddr, storeVar, hT, hcl, storeCells, e0, hst]
  unfold Oper.wp execOp
  simp only [ho, hx, hy, Sem.run_bind, Sem.run_pure, Result.andThen_ok, hr]
  show K (a.put o.dst _) _
  rw [hd]
  exact h
theorem step_st4 (hgd : o.guard = none) (t u : Nat) (ho : o.op = .store 28 (.tmp t) (.tmp u)) (hd : o.dst = none) (w : World) {b k : Nat} {x0 x1 x2 x3 : Value} (hx : a.eval (.tmp t) = .pointer (some ⟨b, k, none⟩)) (hy : a.eval (.tmp u) = .agg #[x0, x1, x2, x3]) (ht : w.there b k 4) (h1 : One4 x0 x1 x2 x3)
    (h : K a (w.setCells b k [x0, x1, x2, x3])) : if Region.wanted o (yielded ops a.tmps) = true then Oper.wp Tryd.prog o a w K Q else E := by
  have hw : Region.wanted o (yielded ops a.tmps) = true := by simp [Region.wanted, hgd]
  rw [if_pos hw]
  refine wp_store_mid 28 (.tmp t) (.tmp u) ho b k #[x0, x1, x2, x3] hx hy ht (by kernel_rfl) h1.all ?_
  rw [hd]
  exact h
end
/-- Four cells of a row are there, and are written. -/
theorem owv_there {w : World} {B g cap n : Nat} {cs : List Value} (h : OwV w B (.slice (some ⟨g, 0, none⟩) (n + 1) cap) (n + 1) cs) : w.there g (n * 4) 4 := fun j hj => by
  have hl : cs.length = (n + 1) * 4 := h.1
  refine ⟨?_, World.ownsRow.frozenAt h _⟩
  rw [World.ownsRow.cellAt h (n * 4 + j) (by omega), List.getElem?_eq_getElem (by omega)]
  rfl
theorem owv_set4 {w : World} {B g cap n : Nat} {cs : List Value} (hn : cs.length = n * 4) {z0 z1 z2 z3 x0 x1 x2 x3 : Value} (h : OwV w B (.slice (some ⟨g, 0, none⟩) (n + 1) cap) (n + 1) (cs ++ [z0, z1, z2, z3])) :
    OwV (w.setCells g (n * 4) [x0, x1, x2, x3]) B (.slice (some ⟨g, 0, none⟩) (n + 1) cap) (n + 1) (cs ++ [x0, x1, x2, x3]) := by
  have h0 := (World.ownsRow.stored h (n * 4) x0).1
  have h1 := (World.ownsRow.stored h0 (n * 4 + 1) x1).1
  have h2 := (World.ownsRow.stored h1 (n * 4 + 1 + 1) x2).1
  have h3 := (World.ownsRow.stored h2 (n * 4 + 1 + 1 + 1) x3).1
  have e : ((((cs ++ [z0, z1, z2, z3]).set (n * 4) x0).set (n * 4 + 1) x1).set (n * 4 + 1 + 1) x2).set (n * 4 + 1 + 1 + 1) x3 = cs ++ [x0, x1, x2, x3] := by
    rw [← hn]
    rw [List.set_append_right _ _ (by omega), List.set_append_right _ _ (by omega), List.set_append_right _ _ (by omega), List.set_append_right _ _ (by omega)]
    congr 1
    rw [Nat.sub_self, show cs.length + 1 - cs.length = 1 by omega, show cs.length + 1 + 1 - cs.length = 2 by omega, show cs.length + 1 + 1 + 1 - cs.length = 3 by omega]
    rfl
  rw [e] at h3
  exact h3
def regionOf (n : Nat) : Code → Option Code
  | .region id ops b => if id = n then some (.region id ops b) else none
  | .loop c => regionOf n c
  | .seq a b => match regionOf n a with
    | some c => some c
    | none => regionOf n b
  | .block _ c => regionOf n c
  | .scope c => regionOf n c
  | .cond _ a b => match regionOf n a with
    | some c => some c
    | none => regionOf n b
  | _ => none
noncomputable def reg9 : Code := (Tryd.f68.body.bind (regionOf 9)).getD .skip
/-- What has come to pass. -/
def Pushed (V : Nat) (k0 t0 nv lv lv' : Value) (n : Nat) (cs' : List Value) (w w' : World) : Prop :=
  J4 V k0 t0 nv lv' w' ∧ OwV w' (V + 1) lv' (n + 1) cs' ∧ Off (fun b => b = V ∨ lv.ownBlock = some b) w w' ∧ ∀ b, lv'.ownBlock = some b → lv.ownBlock = some b ∨ w.heap.size ≤ b
abbrev sz4 : List Value := [.int .i64 0, .string ⟨#[]⟩, .slice none 0 0, .slice none 0 0]
set_option maxRecDepth 100000 in
set_option maxHeartbeats 4000000 in
theorem regM {code : Code} {act : Act} {w : World} {Q : Exit → Act → World → Prop} {V M : Nat} {k0 t0 nv lv x0 x1 x2 x3 : Value} {n : Nat} {cs : List Value} (hcode : code = reg9) (hz : 54 < act.tmps.size) (h1 : act.eval (.tmp 1) = .pointer (some ⟨V, 0, none⟩)) (h7 : act.eval (.tmp 7) = .pointer (some ⟨M, 0, none⟩))
    (HV : J4 V k0 t0 nv lv w) (HM : J4 M x0 x1 x2 x3 w) (hone : One4 x0 x1 x2 x3) (HL : OwV w (V + 1) lv n cs) (hVM : V ≠ M) (hlM : lv.ownBlock ≠ some M) (hn : n ≤ 1000000)
    (k : ∀ y50 y52 lv' w', Pushed V k0 t0 nv lv lv' n (cs ++ [x0, x1, x2, x3]) w w' → Q .normal (Act.put (Act.put (Act.put (Act.put (Act.put (Act.put (Act.put (Act.put (Act.put (Act.put (Act.put act (some 44) (.pointer (some ⟨V, 0, none⟩))) (some 45) (.pointer (some ⟨V, 0, none⟩))) (some 46) (.pointer (some ⟨V, 3, none⟩))) (some 48) (.agg #[x0, x1, x2, x3])) (some 47) lv) (some 49) (.int .i64 n)) (some 50) y50) (some 51) lv') (some 52) y52) (some 53) (.pointer (some ⟨V, 0, none⟩))) (some 54) (.pointer (some ⟨V, 3, none⟩))) w') : code.wp Tryd.prog Q act w := by
  subst hcode
  have hlv : ∃ A c, lv = .slice A n c := by
    rcases HL.2 with ⟨e, h0⟩ | ⟨g, cap, cur, e, _⟩
    · exact ⟨none, 0, by rw [e, h0]⟩
    · exact ⟨_, cap, e⟩
  have hcl : cs.length = n * 4 := HL.1
  have hVl : lv.ownBlock ≠ some V := fun h => by have := World.ownsRow.lt HL V h; omega
  conv => arg 2; whnf
  refine wp_region_noPanic ?_
  refine wp_region_held_drew (S := fun W => J4 M x0 x1 x2 x3 W) (by kernel_rfl) (HM.off (F := fun _ => False) ⟨rfl, rfl, rfl, Nat.le_refl _, fun _ _ _ => rfl⟩ (fun h => h)) (fun hHeld => ?_)
  refine wpAnyH_take (i := 0) (v := .pointer (some ⟨V, 0, none⟩)) rfl (by kernel_rfl) (by kernel_rfl) (by kernel_rfl) (fun _ _ _ h => h) (y_move h1) hHeld ?_
  change wpAnyH _ _ _ _ _ _ _ (Act.put _ (some 44) _) _
  refine wpAnyH_take (i := 1) (v := .pointer (some ⟨V, 0, none⟩)) rfl (by kernel_rfl) (by kernel_rfl) (by kernel_rfl) (fun _ _ _ h => h) (y_nil (ev_same (by omega))) hHeld ?_
  change wpAnyH _ _ _ _ _ _ _ (Act.put _ (some 45) _) _
  refine wpAnyH_take (i := 2) (v := .pointer (some ⟨V, 3, none⟩)) rfl (by kernel_rfl) (by kernel_rfl) (by kernel_rfl) (fun _ _ _ h => h) (y_fld (ev_same (by simp only [sz_put]; omega))) hHeld ?_
  change wpAnyH _ _ _ _ _ _ _ (Act.put _ (some 46) _) _
  refine wpAnyH_take (i := 4) (v := .agg #[x0, x1, x2, x3]) rfl (by kernel_rfl) (by kernel_rfl) (by kernel_rfl) (fun _ _ _ h => h) (y_ld4 (by simp (disch := decide) only [ev_oth]; exact h7)) hHeld ?_
  change wpAnyH _ _ _ _ _ _ _ (Act.put _ (some 48) _) _
  have g44 : Act.eval (Act.put (Act.put (Act.put (Act.put act (some 44) (.pointer (some ⟨V, 0, none⟩))) (some 45) (.pointer (some ⟨V, 0, none⟩))) (some 46) (.pointer (some ⟨V, 3, none⟩))) (some 48) (.agg #[x0, x1, x2, x3])) (.tmp 44) = .pointer (some ⟨V, 0, none⟩) := by
    simp (disch := decide) only [ev_oth]
    exact ev_same (by omega)
  have g46 : Act.eval (Act.put (Act.put (Act.put (Act.put act (some 44) (.pointer (some ⟨V, 0, none⟩))) (some 45) (.pointer (some ⟨V, 0, none⟩))) (some 46) (.pointer (some ⟨V, 3, none⟩))) (some 48) (.agg #[x0, x1, x2, x3])) (.tmp 46) = .pointer (some ⟨V, 3, none⟩) := by
    simp (disch := decide) only [ev_oth]
    exact ev_same (by simp only [sz_put]; omega)
  have g48 : Act.eval (Act.put (Act.put (Act.put (Act.put act (some 44) (.pointer (some ⟨V, 0, none⟩))) (some 45) (.pointer (some ⟨V, 0, none⟩))) (some 46) (.pointer (some ⟨V, 3, none⟩))) (some 48) (.agg #[x0, x1, x2, x3])) (.tmp 48) = .agg #[x0, x1, x2, x3] := ev_same (by simp only [sz_put]; omega)
  have gsz : 54 < (Act.put (Act.put (Act.put (Act.put act (some 44) (.pointer (some ⟨V, 0, none⟩))) (some 45) (.pointer (some ⟨V, 0, none⟩))) (some 46) (.pointer (some ⟨V, 3, none⟩))) (some 48) (.agg #[x0, x1, x2, x3])).tmps.size := by simp only [sz_put]; omega
  obtain ⟨fa, hfa⟩ : ∃ c : Act, (Act.put (Act.put (Act.put (Act.put act (some 44) (.pointer (some ⟨V, 0, none⟩))) (some 45) (.pointer (some ⟨V, 0, none⟩))) (some 46) (.pointer (some ⟨V, 3, none⟩))) (some 48) (.agg #[x0, x1, x2, x3])) = c := ⟨_, rfl⟩
  rw [hfa] at g44 g46 g48 gsz k ⊢
  clear hfa h1 h7 hz
  have D0 : Off (fun _ => False) w w.drew := ⟨rfl, rfl, rfl, Nat.le_refl _, fun _ _ _ => rfl⟩
  have V0 := HV.off D0 (fun h => h)
  have L0 : OwV w.drew (V + 1) lv n cs := own_off HL D0 (fun _ _ h => h)
  have hs0 : w.drew.heap.size = w.heap.size := rfl
  have HB0 : V < w.heap.size := HV.lt
  have hMlt : M < w.heap.size := HM.lt
  generalize w.drew = w0 at *
  obtain ⟨i0, hi, hz0, hz1, hz2⟩ := info_parts Tryd.info7J
  have e1 : (⟨w.heap.size, 0, none⟩ : Addr).block = w.heap.size := rfl
  clear e1
  have U1 : Off (fun _ => False) w0 (w0.alloc (.cells #[.int .i64 0, .string ⟨#[]⟩, .slice none 0 0, .slice none 0 0] 28 (0, 0))) := Off.of_below ((Below.refl _ _).alloc (Nat.le_refl _) _)
  have N1 : Blk w.heap.size (.cells #[.int .i64 0, .string ⟨#[]⟩, .slice none 0 0, .slice none 0 0] 28 (0, 0)) (w0.alloc (.cells #[.int .i64 0, .string ⟨#[]⟩, .slice none 0 0, .slice none 0 0] 28 (0, 0))) := by rw [← hs0]; exact Blk.new _ w0
  have S1 : (w0.alloc (.cells #[.int .i64 0, .string ⟨#[]⟩, .slice none 0 0, .slice none 0 0] 28 (0, 0))).heap.size = w.heap.size + 1 := by simp [hs0]
  refine wpAnyH_ready (rs := [3, 6]) (by kernel_rfl) (by simp) ?_
  refine AllReadyH.cons (o := { dst := some 47, op := .load 26 (.tmp 46), type := _, pos := _, after := _, guard := none }) rfl (fun K hK => ?_) ?_
  · -- the field is read first
    refine step_ldL rfl 46 rfl w0 g46 V0.c3 (by obtain ⟨A, c, rfl⟩ := hlv; rfl) (by obtain ⟨A, c, h⟩ := hlv; exact ⟨A, n, c, h⟩) ?_
    refine hK.out _ _ hHeld (fun hH1 => ?_)
    clear hK K
    change wpAnyH _ _ _ _ _ _ _ (Act.put fa (some 47) _) _
    refine wpAnyH_take (i := 5) (v := .int .i64 (n : Int)) rfl (by kernel_rfl) (by kernel_rfl) (by kernel_rfl) (fun _ _ _ h => h) (by
      obtain ⟨A, c, rfl⟩ := hlv
      exact y_lenV (A := A) (N := n) (c := c) (ev_same (by omega))) hH1 ?_
    change wpAnyH _ _ _ _ _ _ _ (Act.put _ (some 49) _) _
    refine wpAnyH_ready (rs := [6]) (by kernel_rfl) (by simp) ?_
    refine AllReadyH.cons (o := { dst := some 50, op := .buildSlice 26 1 #[(0, .const (.agg #[.int .i64 0, .string ⟨#[]⟩, .slice none 0 0, .slice none 0 0]))], type := _, pos := _, after := _, guard := none }) rfl (fun K hK => ?_) AllReadyH.nil
    refine step_zero rfl rfl w0 ?_
    have M1 := hH1.off U1 (fun h => h)
    refine hK.out _ _ M1 (fun _ => ?_)
    clear hK K
    have V1 := V0.off U1 (fun h => h)
    have L1 : OwV _ (V + 1) lv n cs := own_off L0 U1 (fun _ _ h => h)
    have U0 := D0.trans U1 (fun _ h => .inl h)
    rw [hs0]
    clear hHeld hH1
    generalize w0.alloc (.cells #[.int .i64 0, .string ⟨#[]⟩, .slice none 0 0, .slice none 0 0] 28 (0, 0)) = w1 at *
    change wpAnyH _ _ _ _ _ _ _ (Act.put (Act.put (Act.put fa (some 47) _) (some 49) _) (some 50) _) _
    refine wpAnyH_ready (rs := [7]) (by kernel_rfl) (by simp) ?_
    refine AllReadyH.cons (o := { dst := some 51, op := .call { callee := .builtin .append, args := #[.tmp 47, .tmp 50], argTypes := #[26, 26] }, type := _, pos := _, after := _, guard := none }) rfl (fun K hK => ?_) AllReadyH.nil
    refine step_append_lies w1 rfl (.tmp 47) (.tmp 50) 26 rfl (V + 1) 28 i0 _ 4 72 Tryd.underlying26 hi hz0 hz1 hz2 rfl (by decide) lv n cs (by (try simp (disch := decide) only [ev_oth]); exact ev_same (by (try simp only [sz_put]); omega)) L1 ⟨w.heap.size, 0, none⟩ 1 1 sz4 (by (try simp (disch := decide) only [ev_oth]); exact ev_same (by (try simp only [sz_put]); omega)) rfl (World.news_of_block N1) (fun u hu => by simp at hu; rcases hu with rfl | rfl | rfl | rfl <;> rfl) (by decide) (by unfold maxLen; omega) (by omega) (by omega) w1.heap.size rfl ?_
    intro g cap w2 L2 gr2 at2 lt2
    have o2 := Off.of_grown gr2
    have M2 := M1.off o2 (fun h => hlM h)
    refine hK.out _ _ M2 (fun hH2 => ?_)
    clear hK K
    have V2 : J4 V k0 t0 nv lv w2 := V1.off o2 (fun h => hVl h)
    have hs2 := gr2.size
    have hgM : g ≠ M := fun e => by
      subst e
      rcases at2 with h | h
      · exact hlM h
      · omega
    have hgV : g ≠ V := fun e => by
      subst e
      rcases at2 with h | h
      · exact hVl h
      · omega
    have hgat : ∀ b, (Value.slice (some ⟨g, 0, none⟩) (n + 1) cap).ownBlock = some b → lv.ownBlock = some b ∨ w.heap.size ≤ b := fun b hb => by
      have : g = b := Option.some.inj hb
      subst this
      exact at2.imp id (fun h => by omega)
    have O2 : Off (fun b => b = V ∨ lv.ownBlock = some b) w w2 := (U0.mono (fun _ h => h.elim)).trans (o2.mono (fun b h => .inr h)) (fun _ h => .inl h)
    have lt0 : lv.ownBlock = some g ∨ w.heap.size ≤ g := at2.imp id (fun h => by omega)
    change wpAnyH _ _ _ _ _ _ _ (Act.put (Act.put (Act.put (Act.put fa (some 47) _) (some 49) _) (some 50) _) (some 51) _) _
    refine wpAnyH_take (i := 8) (v := .pointer (some ⟨g, n * 4, none⟩)) rfl (by kernel_rfl) (by kernel_rfl) (by kernel_rfl) (fun _ _ _ h => h) (y_ixV (N := n + 1) (c := cap) (k := n) (by (try simp (disch := decide) only [ev_oth]); exact ev_same (by (try simp only [sz_put]); omega)) (by (try simp (disch := decide) only [ev_oth]); exact ev_same (by (try simp only [sz_put]); omega)) (Nat.lt_succ_self n)) hH2 ?_
    change wpAnyH _ _ _ _ _ _ _ (Act.put _ (some 52) _) _
    refine wpAnyH_take (i := 10) (v := .pointer (some ⟨V, 0, none⟩)) rfl (by kernel_rfl) (by kernel_rfl) (by kernel_rfl) (fun _ _ _ h => h) (y_nil (by (try simp (disch := decide) only [ev_oth]); exact g44)) hH2 ?_
    change wpAnyH _ _ _ _ _ _ _ (Act.put _ (some 53) _) _
    refine wpAnyH_take (i := 11) (v := .pointer (some ⟨V, 3, none⟩)) rfl (by kernel_rfl) (by kernel_rfl) (by kernel_rfl) (fun _ _ _ h => h) (y_fld (by (try simp (disch := decide) only [ev_oth]); exact ev_same (by (try simp only [sz_put]); omega))) hH2 ?_
    change wpAnyH _ _ _ _ _ _ _ (Act.put _ (some 54) _) _
    have k2 := fun w' => k (.slice (some ⟨w.heap.size, 0, none⟩) 1 1) (.pointer (some ⟨g, n * 4, none⟩)) (.slice (some ⟨g, 0, none⟩) (n + 1) cap) w'
    have G48 : Act.eval (Act.put (Act.put (Act.put (Act.put (Act.put (Act.put (Act.put fa (some 47) lv) (some 49) (.int .i64 (n : Int))) (some 50) (.slice (some ⟨w.heap.size, 0, none⟩) 1 1)) (some 51) (.slice (some ⟨g, 0, none⟩) (n + 1) cap)) (some 52) (.pointer (some ⟨g, n * 4, none⟩))) (some 53) (.pointer (some ⟨V, 0, none⟩))) (some 54) (.pointer (some ⟨V, 3, none⟩))) (.tmp 48) = .agg #[x0, x1, x2, x3] := (by (try simp (disch := decide) only [ev_oth]); exact g48)
    have G51 : Act.eval (Act.put (Act.put (Act.put (Act.put (Act.put (Act.put (Act.put fa (some 47) lv) (some 49) (.int .i64 (n : Int))) (some 50) (.slice (some ⟨w.heap.size, 0, none⟩) 1 1)) (some 51) (.slice (some ⟨g, 0, none⟩) (n + 1) cap)) (some 52) (.pointer (some ⟨g, n * 4, none⟩))) (some 53) (.pointer (some ⟨V, 0, none⟩))) (some 54) (.pointer (some ⟨V, 3, none⟩))) (.tmp 51) = .slice (some ⟨g, 0, none⟩) (n + 1) cap := (by (try simp (disch := decide) only [ev_oth]); exact ev_same (by (try simp only [sz_put]); omega))
    have G52 : Act.eval (Act.put (Act.put (Act.put (Act.put (Act.put (Act.put (Act.put fa (some 47) lv) (some 49) (.int .i64 (n : Int))) (some 50) (.slice (some ⟨w.heap.size, 0, none⟩) 1 1)) (some 51) (.slice (some ⟨g, 0, none⟩) (n + 1) cap)) (some 52) (.pointer (some ⟨g, n * 4, none⟩))) (some 53) (.pointer (some ⟨V, 0, none⟩))) (some 54) (.pointer (some ⟨V, 3, none⟩))) (.tmp 52) = .pointer (some ⟨g, n * 4, none⟩) := (by (try simp (disch := decide) only [ev_oth]); exact ev_same (by (try simp only [sz_put]); omega))
    have G54 : Act.eval (Act.put (Act.put (Act.put (Act.put (Act.put (Act.put (Act.put fa (some 47) lv) (some 49) (.int .i64 (n : Int))) (some 50) (.slice (some ⟨w.heap.size, 0, none⟩) 1 1)) (some 51) (.slice (some ⟨g, 0, none⟩) (n + 1) cap)) (some 52) (.pointer (some ⟨g, n * 4, none⟩))) (some 53) (.pointer (some ⟨V, 0, none⟩))) (some 54) (.pointer (some ⟨V, 3, none⟩))) (.tmp 54) = .pointer (some ⟨V, 3, none⟩) := (by (try simp (disch := decide) only [ev_oth]); exact ev_same (by (try simp only [sz_put]); omega))
    obtain ⟨fb, hfb⟩ : ∃ c : Act, (Act.put (Act.put (Act.put (Act.put (Act.put (Act.put (Act.put fa (some 47) lv) (some 49) (.int .i64 (n : Int))) (some 50) (.slice (some ⟨w.heap.size, 0, none⟩) 1 1)) (some 51) (.slice (some ⟨g, 0, none⟩) (n + 1) cap)) (some 52) (.pointer (some ⟨g, n * 4, none⟩))) (some 53) (.pointer (some ⟨V, 0, none⟩))) (some 54) (.pointer (some ⟨V, 3, none⟩))) = c := ⟨_, rfl⟩
    rw [hfb] at G48 G51 G52 G54 k2 ⊢
    clear hfb
    refine wpAnyH_ready (rs := [9, 12]) (by kernel_rfl) (by simp) ?_
    refine AllReadyH.cons (o := { dst := none, op := .store 28 (.tmp 52) (.tmp 48), type := _, pos := _, after := _, guard := none }) rfl (fun K hK => ?_) ?_
    · -- the element first
      have th2 : w2.there g (n * 4) 4 := owv_there L2
      refine step_st4 rfl 52 48 rfl rfl w2 (b := g) (k := n * 4) G52 G48 th2 hone ?_
      have o3 := off_sets7 g [x0, x1, x2, x3] (n * 4) w2
      have L3 := owv_set4 (x0 := x0) (x1 := x1) (x2 := x2) (x3 := x3) hcl L2
      have V3 := V2.off o3 (fun h => hgV h.symm)
      have M3 := M2.off o3 (fun h => hgM h.symm)
      refine hK.out _ _ M3 (fun hH3 => ?_)
      clear hK K
      generalize w2.setCells g (n * 4) [x0, x1, x2, x3] = w3 at *
      refine wpAnyH_ready (rs := [12]) (by kernel_rfl) (by simp) ?_
      refine AllReadyH.cons (o := { dst := none, op := .store 26 (.tmp 54) (.tmp 51), type := _, pos := _, after := _, guard := none }) rfl (fun K hK => ?_) AllReadyH.nil
      refine step_stL rfl 54 51 rfl rfl w3 (b := V) (k := 3) G54 G51 V3.c3 (V3.free 3) ⟨_, _, _, rfl⟩ ?_
      have o4 := off_set7 w3 V 3 (.slice (some ⟨g, 0, none⟩) (n + 1) cap)
      have L4 : OwV _ (V + 1) (.slice (some ⟨g, 0, none⟩) (n + 1) cap) (n + 1) (cs ++ [x0, x1, x2, x3]) := own_off L3 o4 (fun b hb h => by have : g = b := Option.some.inj hb; omega)
      have V4 : J4 V k0 t0 nv (.slice (some ⟨g, 0, none⟩) (n + 1) cap) _ := V3.set 3 (.slice (some ⟨g, 0, none⟩) (n + 1) cap)
      refine hK.out _ _ (M3.off o4 (fun h => hVM h.symm)) (fun hH4 => ?_)
      refine wpAnyH_done (by kernel_rfl) ?_ _
      refine NoPanic.normal ?_
      have o3' : Off (fun b => b = V ∨ lv.ownBlock = some b) w w3 := O2.trans o3 (fun b h => by
        subst h
        exact lt0.imp .inr id)
      exact k2 _ ⟨V4, L4, o3'.trans o4 (fun b h => .inl (.inl h)), hgat⟩
    · -- the field first
      refine AllReadyH.cons (o := { dst := none, op := .store 26 (.tmp 54) (.tmp 51), type := _, pos := _, after := _, guard := none }) rfl (fun K hK => ?_) AllReadyH.nil
      refine step_stL rfl 54 51 rfl rfl w2 (b := V) (k := 3) G54 G51 V2.c3 (V2.free 3) ⟨_, _, _, rfl⟩ ?_
      have o3 := off_set7 w2 V 3 (.slice (some ⟨g, 0, none⟩) (n + 1) cap)
      have L3 : OwV _ (V + 1) (.slice (some ⟨g, 0, none⟩) (n + 1) cap) (n + 1) (cs ++ sz4) := own_off L2 o3 (fun b hb h => by have : g = b := Option.some.inj hb; omega)
      have V3 : J4 V k0 t0 nv (.slice (some ⟨g, 0, none⟩) (n + 1) cap) _ := V2.set 3 (.slice (some ⟨g, 0, none⟩) (n + 1) cap)
      have M3 := M2.off o3 (fun h => hVM h.symm)
      refine hK.out _ _ M3 (fun hH3 => ?_)
      clear hK K
      generalize w2.setCell ⟨V, 3, none⟩ (.slice (some ⟨g, 0, none⟩) (n + 1) cap) = w3 at *
      refine wpAnyH_ready (rs := [9]) (by kernel_rfl) (by simp) ?_
      refine AllReadyH.cons (o := { dst := none, op := .store 28 (.tmp 52) (.tmp 48), type := _, pos := _, after := _, guard := none }) rfl (fun K hK => ?_) AllReadyH.nil
      have th3 : w3.there g (n * 4) 4 := owv_there L3
      refine step_st4 rfl 52 48 rfl rfl w3 (b := g) (k := n * 4) G52 G48 th3 hone ?_
      have o4 := off_sets7 g [x0, x1, x2, x3] (n * 4) w3
      have L4 := owv_set4 (x0 := x0) (x1 := x1) (x2 := x2) (x3 := x3) hcl L3
      have V4 := V3.off o4 (fun h => hgV h.symm)
      refine hK.out _ _ (M3.off o4 (fun h => hgM h.symm)) (fun hH4 => ?_)
      refine wpAnyH_done (by kernel_rfl) ?_ _
      refine NoPanic.normal ?_
      have o3' : Off (fun b => b = V ∨ lv.ownBlock = some b) w w3 := O2.trans o3 (fun b h => .inl (.inl h))
      exact k2 _ ⟨V4, L4, o3'.trans o4 (fun b h => by
        subst h
        exact lt0.imp .inr id), hgat⟩
  · -- the empty element first
    refine AllReadyH.cons (o := { dst := some 50, op := .buildSlice 26 1 #[(0, .const (.agg #[.int .i64 0, .string ⟨#[]⟩, .slice none 0 0, .slice none 0 0]))], type := _, pos := _, after := _, guard := none }) rfl (fun K hK => ?_) AllReadyH.nil
    refine step_zero rfl rfl w0 ?_
    have M1 := hHeld.off U1 (fun h => h)
    refine hK.out _ _ M1 (fun _ => ?_)
    clear hK K
    have V1 := V0.off U1 (fun h => h)
    have L1 : OwV _ (V + 1) lv n cs := own_off L0 U1 (fun _ _ h => h)
    have U0 := D0.trans U1 (fun _ h => .inl h)
    rw [hs0]
    clear hHeld
    generalize w0.alloc (.cells #[.int .i64 0, .string ⟨#[]⟩, .slice none 0 0, .slice none 0 0] 28 (0, 0)) = w1 at *
    change wpAnyH _ _ _ _ _ _ _ (Act.put fa (some 50) _) _
    refine wpAnyH_ready (rs := [3]) (by kernel_rfl) (by simp) ?_
    refine AllReadyH.cons (o := { dst := some 47, op := .load 26 (.tmp 46), type := _, pos := _, after := _, guard := none }) rfl (fun K hK => ?_) AllReadyH.nil
    refine step_ldL rfl 46 rfl w1 (by (try simp (disch := decide) only [ev_oth]); exact g46) V1.c3 (by obtain ⟨A, c, rfl⟩ := hlv; rfl) (by obtain ⟨A, c, h⟩ := hlv; exact ⟨A, n, c, h⟩) ?_
    refine hK.out _ _ M1 (fun hH1 => ?_)
    clear hK K
    change wpAnyH _ _ _ _ _ _ _ (Act.put (Act.put fa (some 50) _) (some 47) _) _
    refine wpAnyH_take (i := 5) (v := .int .i64 (n : Int)) rfl (by kernel_rfl) (by kernel_rfl) (by kernel_rfl) (fun _ _ _ h => h) (by
      obtain ⟨A, c, rfl⟩ := hlv
      exact y_lenV (A := A) (N := n) (c := c) (ev_same (by simp only [sz_put]; omega))) hH1 ?_
    change wpAnyH _ _ _ _ _ _ _ (Act.put _ (some 49) _) _
    rw [Act.put_comm (x := some 50) (y := some 47) _ _ _ (by simp), Act.put_comm (x := some 50) (y := some 49) _ _ _ (by simp)]
    clear hH1
    refine wpAnyH_ready (rs := [7]) (by kernel_rfl) (by simp) ?_
    refine AllReadyH.cons (o := { dst := some 51, op := .call { callee := .builtin .append, args := #[.tmp 47, .tmp 50], argTypes := #[26, 26] }, type := _, pos := _, after := _, guard := none }) rfl (fun K hK => ?_) AllReadyH.nil
    refine step_append_lies w1 rfl (.tmp 47) (.tmp 50) 26 rfl (V + 1) 28 i0 _ 4 72 Tryd.underlying26 hi hz0 hz1 hz2 rfl (by decide) lv n cs (by (try simp (disch := decide) only [ev_oth]); exact ev_same (by (try simp only [sz_put]); omega)) L1 ⟨w.heap.size, 0, none⟩ 1 1 sz4 (by (try simp (disch := decide) only [ev_oth]); exact ev_same (by (try simp only [sz_put]); omega)) rfl (World.news_of_block N1) (fun u hu => by simp at hu; rcases hu with rfl | rfl | rfl | rfl <;> rfl) (by decide) (by unfold maxLen; omega) (by omega) (by omega) w1.heap.size rfl ?_
    intro g cap w2 L2 gr2 at2 lt2
    have o2 := Off.of_grown gr2
    have M2 := M1.off o2 (fun h => hlM h)
    refine hK.out _ _ M2 (fun hH2 => ?_)
    clear hK K
    have V2 : J4 V k0 t0 nv lv w2 := V1.off o2 (fun h => hVl h)
    have hs2 := gr2.size
    have hgM : g ≠ M := fun e => by
      subst e
      rcases at2 with h | h
      · exact hlM h
      · omega
    have hgV : g ≠ V := fun e => by
      subst e
      rcases at2 with h | h
      · exact hVl h
      · omega
    have hgat : ∀ b, (Value.slice (some ⟨g, 0, none⟩) (n + 1) cap).ownBlock = some b → lv.ownBlock = some b ∨ w.heap.size ≤ b := fun b hb => by
      have : g = b := Option.some.inj hb
      subst this
      exact at2.imp id (fun h => by omega)
    have O2 : Off (fun b => b = V ∨ lv.ownBlock = some b) w w2 := (U0.mono (fun _ h => h.elim)).trans (o2.mono (fun b h => .inr h)) (fun _ h => .inl h)
    have lt0 : lv.ownBlock = some g ∨ w.heap.size ≤ g := at2.imp id (fun h => by omega)
    change wpAnyH _ _ _ _ _ _ _ (Act.put (Act.put (Act.put (Act.put fa (some 47) _) (some 49) _) (some 50) _) (some 51) _) _
    refine wpAnyH_take (i := 8) (v := .pointer (some ⟨g, n * 4, none⟩)) rfl (by kernel_rfl) (by kernel_rfl) (by kernel_rfl) (fun _ _ _ h => h) (y_ixV (N := n + 1) (c := cap) (k := n) (by (try simp (disch := decide) only [ev_oth]); exact ev_same (by (try simp only [sz_put]); omega)) (by (try simp (disch := decide) only [ev_oth]); exact ev_same (by (try simp only [sz_put]); omega)) (Nat.lt_succ_self n)) hH2 ?_
    change wpAnyH _ _ _ _ _ _ _ (Act.put _ (some 52) _) _
    refine wpAnyH_take (i := 10) (v := .pointer (some ⟨V, 0, none⟩)) rfl (by kernel_rfl) (by kernel_rfl) (by kernel_rfl) (fun _ _ _ h => h) (y_nil (by (try simp (disch := decide) only [ev_oth]); exact g44)) hH2 ?_
    change wpAnyH _ _ _ _ _ _ _ (Act.put _ (some 53) _) _
    refine wpAnyH_take (i := 11) (v := .pointer (some ⟨V, 3, none⟩)) rfl (by kernel_rfl) (by kernel_rfl) (by kernel_rfl) (fun _ _ _ h => h) (y_fld (by (try simp (disch := decide) only [ev_oth]); exact ev_same (by (try simp only [sz_put]); omega))) hH2 ?_
    change wpAnyH _ _ _ _ _ _ _ (Act.put _ (some 54) _) _
    have k2 := fun w' => k (.slice (some ⟨w.heap.size, 0, none⟩) 1 1) (.pointer (some ⟨g, n * 4, none⟩)) (.slice (some ⟨g, 0, none⟩) (n + 1) cap) w'
    have G48 : Act.eval (Act.put (Act.put (Act.put (Act.put (Act.put (Act.put (Act.put fa (some 47) lv) (some 49) (.int .i64 (n : Int))) (some 50) (.slice (some ⟨w.heap.size, 0, none⟩) 1 1)) (some 51) (.slice (some ⟨g, 0, none⟩) (n + 1) cap)) (some 52) (.pointer (some ⟨g, n * 4, none⟩))) (some 53) (.pointer (some ⟨V, 0, none⟩))) (some 54) (.pointer (some ⟨V, 3, none⟩))) (.tmp 48) = .agg #[x0, x1, x2, x3] := (by (try simp (disch := decide) only [ev_oth]); exact g48)
    have G51 : Act.eval (Act.put (Act.put (Act.put (Act.put (Act.put (Act.put (Act.put fa (some 47) lv) (some 49) (.int .i64 (n : Int))) (some 50) (.slice (some ⟨w.heap.size, 0, none⟩) 1 1)) (some 51) (.slice (some ⟨g, 0, none⟩) (n + 1) cap)) (some 52) (.pointer (some ⟨g, n * 4, none⟩))) (some 53) (.pointer (some ⟨V, 0, none⟩))) (some 54) (.pointer (some ⟨V, 3, none⟩))) (.tmp 51) = .slice (some ⟨g, 0, none⟩) (n + 1) cap := (by (try simp (disch := decide) only [ev_oth]); exact ev_same (by (try simp only [sz_put]); omega))
    have G52 : Act.eval (Act.put (Act.put (Act.put (Act.put (Act.put (Act.put (Act.put fa (some 47) lv) (some 49) (.int .i64 (n : Int))) (some 50) (.slice (some ⟨w.heap.size, 0, none⟩) 1 1)) (some 51) (.slice (some ⟨g, 0, none⟩) (n + 1) cap)) (some 52) (.pointer (some ⟨g, n * 4, none⟩))) (some 53) (.pointer (some ⟨V, 0, none⟩))) (some 54) (.pointer (some ⟨V, 3, none⟩))) (.tmp 52) = .pointer (some ⟨g, n * 4, none⟩) := (by (try simp (disch := decide) only [ev_oth]); exact ev_same (by (try simp only [sz_put]); omega))
    have G54 : Act.eval (Act.put (Act.put (Act.put (Act.put (Act.put (Act.put (Act.put fa (some 47) lv) (some 49) (.int .i64 (n : Int))) (some 50) (.slice (some ⟨w.heap.size, 0, none⟩) 1 1)) (some 51) (.slice (some ⟨g, 0, none⟩) (n + 1) cap)) (some 52) (.pointer (some ⟨g, n * 4, none⟩))) (some 53) (.pointer (some ⟨V, 0, none⟩))) (some 54) (.pointer (some ⟨V, 3, none⟩))) (.tmp 54) = .pointer (some ⟨V, 3, none⟩) := (by (try simp (disch := decide) only [ev_oth]); exact ev_same (by (try simp only [sz_put]); omega))
    obtain ⟨fb, hfb⟩ : ∃ c : Act, (Act.put (Act.put (Act.put (Act.put (Act.put (Act.put (Act.put fa (some 47) lv) (some 49) (.int .i64 (n : Int))) (some 50) (.slice (some ⟨w.heap.size, 0, none⟩) 1 1)) (some 51) (.slice (some ⟨g, 0, none⟩) (n + 1) cap)) (some 52) (.pointer (some ⟨g, n * 4, none⟩))) (some 53) (.pointer (some ⟨V, 0, none⟩))) (some 54) (.pointer (some ⟨V, 3, none⟩))) = c := ⟨_, rfl⟩
    rw [hfb] at G48 G51 G52 G54 k2 ⊢
    clear hfb
    refine wpAnyH_ready (rs := [9, 12]) (by kernel_rfl) (by simp) ?_
    refine AllReadyH.cons (o := { dst := none, op := .store 28 (.tmp 52) (.tmp 48), type := _, pos := _, after := _, guard := none }) rfl (fun K hK => ?_) ?_
    · -- the element first
      have th2 : w2.there g (n * 4) 4 := owv_there L2
      refine step_st4 rfl 52 48 rfl rfl w2 (b := g) (k := n * 4) G52 G48 th2 hone ?_
      have o3 := off_sets7 g [x0, x1, x2, x3] (n * 4) w2
      have L3 := owv_set4 (x0 := x0) (x1 := x1) (x2 := x2) (x3 := x3) hcl L2
      have V3 := V2.off o3 (fun h => hgV h.symm)
      have M3 := M2.off o3 (fun h => hgM h.symm)
      refine hK.out _ _ M3 (fun hH3 => ?_)
      clear hK K
      generalize w2.setCells g (n * 4) [x0, x1, x2, x3] = w3 at *
      refine wpAnyH_ready (rs := [12]) (by kernel_rfl) (by simp) ?_
      refine AllReadyH.cons (o := { dst := none, op := .store 26 (.tmp 54) (.tmp 51), type := _, pos := _, after := _, guard := none }) rfl (fun K hK => ?_) AllReadyH.nil
      refine step_stL rfl 54 51 rfl rfl w3 (b := V) (k := 3) G54 G51 V3.c3 (V3.free 3) ⟨_, _, _, rfl⟩ ?_
      have o4 := off_set7 w3 V 3 (.slice (some ⟨g, 0, none⟩) (n + 1) cap)
      have L4 : OwV _ (V + 1) (.slice (some ⟨g, 0, none⟩) (n + 1) cap) (n + 1) (cs ++ [x0, x1, x2, x3]) := own_off L3 o4 (fun b hb h => by have : g = b := Option.some.inj hb; omega)
      have V4 : J4 V k0 t0 nv (.slice (some ⟨g, 0, none⟩) (n + 1) cap) _ := V3.set 3 (.slice (some ⟨g, 0, none⟩) (n + 1) cap)
      refine hK.out _ _ (M3.off o4 (fun h => hVM h.symm)) (fun hH4 => ?_)
      refine wpAnyH_done (by kernel_rfl) ?_ _
      refine NoPanic.normal ?_
      have o3' : Off (fun b => b = V ∨ lv.ownBlock = some b) w w3 := O2.trans o3 (fun b h => by
        subst h
        exact lt0.imp .inr id)
      exact k2 _ ⟨V4, L4, o3'.trans o4 (fun b h => .inl (.inl h)), hgat⟩
    · -- the field first
      refine AllReadyH.cons (o := { dst := none, op := .store 26 (.tmp 54) (.tmp 51), type := _, pos := _, after := _, guard := none }) rfl (fun K hK => ?_) AllReadyH.nil
      refine step_stL rfl 54 51 rfl rfl w2 (b := V) (k := 3) G54 G51 V2.c3 (V2.free 3) ⟨_, _, _, rfl⟩ ?_
      have o3 := off_set7 w2 V 3 (.slice (some ⟨g, 0, none⟩) (n + 1) cap)
      have L3 : OwV _ (V + 1) (.slice (some ⟨g, 0, none⟩) (n + 1) cap) (n + 1) (cs ++ sz4) := own_off L2 o3 (fun b hb h => by have : g = b := Option.some.inj hb; omega)
      have V3 : J4 V k0 t0 nv (.slice (some ⟨g, 0, none⟩) (n + 1) cap) _ := V2.set 3 (.slice (some ⟨g, 0, none⟩) (n + 1) cap)
      have M3 := M2.off o3 (fun h => hVM h.symm)
      refine hK.out _ _ M3 (fun hH3 => ?_)
      clear hK K
      generalize w2.setCell ⟨V, 3, none⟩ (.slice (some ⟨g, 0, none⟩) (n + 1) cap) = w3 at *
      refine wpAnyH_ready (rs := [9]) (by kernel_rfl) (by simp) ?_
      refine AllReadyH.cons (o := { dst := none, op := .store 28 (.tmp 52) (.tmp 48), type := _, pos := _, after := _, guard := none }) rfl (fun K hK => ?_) AllReadyH.nil
      have th3 : w3.there g (n * 4) 4 := owv_there L3
      refine step_st4 rfl 52 48 rfl rfl w3 (b := g) (k := n * 4) G52 G48 th3 hone ?_
      have o4 := off_sets7 g [x0, x1, x2, x3] (n * 4) w3
      have L4 := owv_set4 (x0 := x0) (x1 := x1) (x2 := x2) (x3 := x3) hcl L3
      have V4 := V3.off o4 (fun h => hgV h.symm)
      refine hK.out _ _ (M3.off o4 (fun h => hgM h.symm)) (fun hH4 => ?_)
      refine wpAnyH_done (by kernel_rfl) ?_ _
      refine NoPanic.normal ?_
      have o3' : Off (fun b => b = V ∨ lv.ownBlock = some b) w w3 := O2.trans o3 (fun b h => .inl (.inl h))
      exact k2 _ ⟨V4, L4, o3'.trans o4 (fun b h => by
        subst h
        exact lt0.imp .inr id), hgat⟩
end Go.Proofs.YtchgelfomnbpaaaDoor
