/-
  The drawn regions of the program's clone of a value of JSON, as laws over any frame. No conditions.
-/
import Derived.Test.YtchgelfomnbpaaaDoorZ28
namespace Go.Proofs.YtchgelfomnbpaaaDoor
open Go.RowKit
open Go.Lib

noncomputable def cl1 : Code := (Tryd.f32.body.bind (regionOf 1)).getD .skip
noncomputable def cl5 : Code := (Tryd.f32.body.bind (regionOf 5)).getD .skip
noncomputable def cl10 : Code := (Tryd.f32.body.bind (regionOf 10)).getD .skip
section
variable {P : Program} {ops : Array Oper} {S : World → Prop} {a : Act}
theorem y_fa0 {dst : Option Nat} {ty : TypeId} {pos : String} {af : Array Edge} {s b : Nat} (h : a.eval (.tmp s) = .pointer (some ⟨b, 0, none⟩)) :
    YieldsIf Tryd.prog ops S { dst := dst, op := .fieldAddr 28 (.tmp s) 0, type := ty, pos := pos, after := af, guard := none } (.pointer (some ⟨b, 0, none⟩)) a := by
  refine Or.inl ⟨rfl, fun W _ => ?_⟩
  generalize a.eval = ev at *
  go_simp
theorem y_fa1 {dst : Option Nat} {ty : TypeId} {pos : String} {af : Array Edge} {s b : Nat} (h : a.eval (.tmp s) = .pointer (some ⟨b, 0, none⟩)) :
    YieldsIf Tryd.prog ops S { dst := dst, op := .fieldAddr 28 (.tmp s) 1, type := ty, pos := pos, after := af, guard := none } (.pointer (some ⟨b, 1, none⟩)) a := by
  refine Or.inl ⟨rfl, fun W _ => ?_⟩
  generalize a.eval = ev at *
  go_simp
theorem y_fa2 {dst : Option Nat} {ty : TypeId} {pos : String} {af : Array Edge} {s b : Nat} (h : a.eval (.tmp s) = .pointer (some ⟨b, 0, none⟩)) :
    YieldsIf Tryd.prog ops S { dst := dst, op := .fieldAddr 28 (.tmp s) 2, type := ty, pos := pos, after := af, guard := none } (.pointer (some ⟨b, 2, none⟩)) a := by
  refine Or.inl ⟨rfl, fun W _ => ?_⟩
  generalize a.eval = ev at *
  go_simp
theorem y_fa3 {dst : Option Nat} {ty : TypeId} {pos : String} {af : Array Edge} {s b : Nat} (h : a.eval (.tmp s) = .pointer (some ⟨b, 0, none⟩)) :
    YieldsIf Tryd.prog ops S { dst := dst, op := .fieldAddr 28 (.tmp s) 3, type := ty, pos := pos, after := af, guard := none } (.pointer (some ⟨b, 3, none⟩)) a := by
  refine Or.inl ⟨rfl, fun W _ => ?_⟩
  generalize a.eval = ev at *
  go_simp
theorem y_ldK {dst : Option Nat} {ty : TypeId} {pos : String} {af : Array Edge} {s b k : Nat} {z : Int} (h : a.eval (.tmp s) = .pointer (some ⟨b, k, none⟩)) (hS : ∀ W, S W → W.cell? ⟨b, k, none⟩ = some (.int .i64 z)) :
    YieldsIf Tryd.prog ops S { dst := dst, op := .load 24 (.tmp s), type := ty, pos := pos, after := af, guard := none } (.int .i64 z) a := by
  refine Or.inl ⟨rfl, fun W hW => ?_⟩
  have hc := hS W hW
  generalize a.eval = ev at *
  go_simp
theorem y_ldS {dst : Option Nat} {ty : TypeId} {pos : String} {af : Array Edge} {s b k : Nat} {z : ByteArray} (h : a.eval (.tmp s) = .pointer (some ⟨b, k, none⟩)) (hS : ∀ W, S W → W.cell? ⟨b, k, none⟩ = some (.string z)) :
    YieldsIf Tryd.prog ops S { dst := dst, op := .load 9 (.tmp s), type := ty, pos := pos, after := af, guard := none } (.string z) a := by
  refine Or.inl ⟨rfl, fun W hW => ?_⟩
  have hc := hS W hW
  generalize a.eval = ev at *
  go_simp
theorem y_bld {dst : Option Nat} {ty : TypeId} {pos : String} {af : Array Edge} {s t : Nat} {k : Int} {z : ByteArray} (h1 : a.eval (.tmp s) = .int .i64 k) (h2 : a.eval (.tmp t) = .string z) :
    YieldsIf Tryd.prog ops S { dst := dst, op := .build 28 #[(0, .tmp s), (1, .tmp t)], type := ty, pos := pos, after := af, guard := none } (.agg #[.int .i64 k, .string z, .slice none 0 0, .slice none 0 0]) a := by
  refine Or.inl ⟨rfl, fun W _ => ?_⟩
  generalize a.eval = ev at *
  go_simp
variable {o : Oper} {K : Act → World → Prop} {Q : Exit → Act → World → Prop} {E : Prop}
theorem call_f32 (v : Value) (w : World) : (callFunc 32 #[v]).run Tryd.prog w = .ok (.enter 32 #[v]) w := by
  simp [callFunc, Tryd.func32]
  rfl
theorem call_f33 (v : Value) (w : World) : (callFunc 33 #[v]).run Tryd.prog w = .ok (.enter 33 #[v]) w := by
  simp [callFunc, Tryd.func33]
  rfl
theorem step_call1 (hgd : o.guard = none) (f : Nat) (x : Operand) (tys : Array TypeId) (ho : o.op = .call { callee := .value (.func f), args := #[x], argTypes := tys }) (w : World) {v : Value} (hcf : (callFunc f #[v]).run Tryd.prog w = .ok (.enter f #[v]) w) (hx : a.eval x = v) {R : Ending → World → Prop} (hC : Calls Tryd.prog f #[v] w R)
    (h : ∀ e w', R e w' → ∃ r, e = .returned r ∧ K (a.put o.dst r) w') : if Region.wanted o (yielded ops a.tmps) = true then Oper.wp Tryd.prog o a w K Q else E := by
  have hw : Region.wanted o (yielded ops a.tmps) = true := by simp [Region.wanted, hgd]
  rw [if_pos hw]
  unfold Oper.wp
  have run : (execOp a.eval o).run Tryd.prog w = .ok (.enter f #[v]) w := by
    clear h hw hC
    unfold execOp
    rw [ho]
    generalize hev : a.eval = ev at *
    have hf : ev (.func f) = a.eval (.func f) := by rw [hev]
    simp only [Act.eval] at hf
    go_simp
  rw [run, Oper.upon_enter]
  refine hC.mono (fun e w' hR => ?_)
  obtain ⟨r, rfl, hk⟩ := h e w' hR
  exact hk
end
theorem step_al4 {ops : Array Oper} {a : Act} {o : Oper} {K : Act → World → Prop} {Q : Exit → Act → World → Prop} {E : Prop} (hgd : o.guard = none) (ho : o.op = .alloc 28) (w : World)
    (h : K (a.put o.dst (.pointer (some ⟨w.heap.size, 0, none⟩))) (w.alloc (.cells #[.int .i64 0, .string ⟨#[]⟩, .slice none 0 0, .slice none 0 0] 28 (0, 0)))) :
    if Region.wanted o (yielded ops a.tmps) = true then Oper.wp Tryd.prog o a w K Q else E := by
  have hw : Region.wanted o (yielded ops a.tmps) = true := by simp [Region.wanted, hgd]
  rw [if_pos hw]
  unfold Oper.wp
  have run : (execOp a.eval o).run Tryd.prog w = .ok (.value (.pointer (some ⟨w.heap.size, 0, none⟩))) (w.alloc (.cells #[.int .i64 0, .string ⟨#[]⟩, .slice none 0 0, .slice none 0 0] 28 (0, 0))) := by
    clear h hw
    unfold execOp
    rw [ho]
    generalize a.eval = ev at *
    go_simp
  rw [run]
  exact h
set_option maxRecDepth 100000 in
set_option maxHeartbeats 4000000 in
theorem regC1 {code : Code} {act : Act} {w : World} {Q : Exit → Act → World → Prop} {B0 : Nat} {k : Int} {s : ByteArray} {x2 x3 : Value} (hcode : code = cl1) (hz : 44 < act.tmps.size) (h1 : act.eval (.tmp 1) = .pointer (some ⟨B0, 0, none⟩))
    (HB : J4 B0 (.int .i64 k) (.string s) x2 x3 w) (HC : ∀ W, Calls Tryd.prog 33 #[.string s] W fun e w' => e = .returned (.string s) ∧ Below W.heap.size W w')
    (kk : ∀ C w', w.heap.size ≤ C → J4 C (.int .i64 k) (.string s) (.slice none 0 0) (.slice none 0 0) w' → Below w.heap.size w w' → Q .normal (Act.put (Act.put (Act.put (Act.put (Act.put (Act.put (Act.put (act) (some 8) (.pointer (some ⟨B0, 0, none⟩))) (some 9) (.int .i64 k)) (some 10) (.pointer (some ⟨B0, 1, none⟩))) (some 11) (.string s)) (some 12) (.string s)) (some 3) (.pointer (some ⟨C, 0, none⟩))) (some 13) (.agg #[.int .i64 k, .string s, .slice none 0 0, .slice none 0 0])) w') : code.wp Tryd.prog Q act w := by
  subst hcode
  conv => arg 2; whnf
  refine wp_region_noPanic ?_
  refine wp_region_held_drew (S := fun W => J4 B0 (.int .i64 k) (.string s) x2 x3 W) (by kernel_rfl) (HB.off (F := fun _ => False) ⟨rfl, rfl, rfl, Nat.le_refl _, fun _ _ _ => rfl⟩ (fun h => h)) (fun hHeld => ?_)
  refine wpAnyH_take (i := 0) (v := .pointer (some ⟨B0, 0, none⟩)) rfl (by kernel_rfl) (by kernel_rfl) (by kernel_rfl) (fun _ _ _ h => h) (y_fa0 (by first | (with_reducible exact h1) | (with_reducible exact ev_same (by (try simp only [sz_put]); omega)) | (simp (disch := decide) only [ev_oth]; first | (with_reducible exact h1) | (with_reducible exact ev_same (by (try simp only [sz_put]); omega))))) hHeld ?_
  change wpAnyH _ _ _ _ _ _ _ (Act.put _ (some 8) _) _
  refine wpAnyH_take (i := 1) (v := .int .i64 k) rfl (by kernel_rfl) (by kernel_rfl) (by kernel_rfl) (fun _ _ _ h => h) (y_ldK (b := B0) (k := 0) (by first | (with_reducible exact h1) | (with_reducible exact ev_same (by (try simp only [sz_put]); omega)) | (simp (disch := decide) only [ev_oth]; first | (with_reducible exact h1) | (with_reducible exact ev_same (by (try simp only [sz_put]); omega)))) (fun W hW => J4.c0 hW)) hHeld ?_
  change wpAnyH _ _ _ _ _ _ _ (Act.put _ (some 9) _) _
  refine wpAnyH_take (i := 2) (v := .pointer (some ⟨B0, 1, none⟩)) rfl (by kernel_rfl) (by kernel_rfl) (by kernel_rfl) (fun _ _ _ h => h) (y_fa1 (by first | (with_reducible exact h1) | (with_reducible exact ev_same (by (try simp only [sz_put]); omega)) | (simp (disch := decide) only [ev_oth]; first | (with_reducible exact h1) | (with_reducible exact ev_same (by (try simp only [sz_put]); omega))))) hHeld ?_
  change wpAnyH _ _ _ _ _ _ _ (Act.put _ (some 10) _) _
  refine wpAnyH_take (i := 3) (v := .string s) rfl (by kernel_rfl) (by kernel_rfl) (by kernel_rfl) (fun _ _ _ h => h) (y_ldS (b := B0) (k := 1) (by first | (with_reducible exact h1) | (with_reducible exact ev_same (by (try simp only [sz_put]); omega)) | (simp (disch := decide) only [ev_oth]; first | (with_reducible exact h1) | (with_reducible exact ev_same (by (try simp only [sz_put]); omega)))) (fun W hW => J4.c1 hW)) hHeld ?_
  change wpAnyH _ _ _ _ _ _ _ (Act.put _ (some 11) _) _
  have D0 : Below w.heap.size w w.drew := below_drewN (Below.refl _ _) 1
  have hs0 : w.drew.heap.size = w.heap.size := rfl
  have hBl : B0 < w.heap.size := HB.lt
  generalize w.drew = w0 at *
  refine wpAnyH_ready (rs := [4, 6]) (by kernel_rfl) (by simp) ?_
  refine AllReadyH.cons (o := { dst := some 12, op := .call { callee := .value (.func 33), args := #[.tmp 11], argTypes := _ }, type := _, pos := _, after := _, guard := none }) rfl (fun K hK => ?_) ?_
  · refine step_call1 rfl 33 (.tmp 11) _ rfl w0 (call_f33 _ _) (v := .string s) (by first | (with_reducible exact h1) | (with_reducible exact ev_same (by (try simp only [sz_put]); omega)) | (simp (disch := decide) only [ev_oth]; first | (with_reducible exact h1) | (with_reducible exact ev_same (by (try simp only [sz_put]); omega)))) (HC w0) ?_
    rintro e w2 ⟨rfl, b2⟩
    refine ⟨_, rfl, ?_⟩
    refine hK.out _ _ (hHeld.below b2) (fun hH1 => ?_)
    clear hK K
    change wpAnyH _ _ _ _ _ _ _ (Act.put _ (some 12) _) _
    refine wpAnyH_take (i := 5) (v := .agg #[.int .i64 k, .string s, .slice none 0 0, .slice none 0 0]) rfl (by kernel_rfl) (by kernel_rfl) (by kernel_rfl) (fun _ _ _ h => h) (y_bld (by first | (with_reducible exact h1) | (with_reducible exact ev_same (by (try simp only [sz_put]); omega)) | (simp (disch := decide) only [ev_oth]; first | (with_reducible exact h1) | (with_reducible exact ev_same (by (try simp only [sz_put]); omega)))) (by first | (with_reducible exact h1) | (with_reducible exact ev_same (by (try simp only [sz_put]); omega)) | (simp (disch := decide) only [ev_oth]; first | (with_reducible exact h1) | (with_reducible exact ev_same (by (try simp only [sz_put]); omega))))) hH1 ?_
    change wpAnyH _ _ _ _ _ _ _ (Act.put _ (some 13) _) _
    refine wpAnyH_ready (rs := [6]) (by kernel_rfl) (by simp) ?_
    refine AllReadyH.cons (o := { dst := some 3, op := .alloc 28, type := _, pos := _, after := _, guard := none }) rfl (fun K hK => ?_) AllReadyH.nil
    refine step_al4 rfl rfl w2 ?_
    have U2 : Below w2.heap.size w2 (w2.alloc (.cells #[.int .i64 0, .string ⟨#[]⟩, .slice none 0 0, .slice none 0 0] 28 (0, 0))) := (Below.refl _ _).alloc (Nat.le_refl _) _
    have hC : JZ w2.heap.size (w2.alloc (.cells #[.int .i64 0, .string ⟨#[]⟩, .slice none 0 0, .slice none 0 0] 28 (0, 0))) := Blk.new _ w2
    refine hK.out _ _ (hH1.below U2) (fun hH2 => ?_)
    clear hK K
    change wpAnyH _ _ _ _ _ _ _ (Act.put _ (some 3) _) _
    have hs2 : w.heap.size ≤ w2.heap.size := by have := b2.size; omega
    have BB : Below w.heap.size w (w2.alloc (.cells #[.int .i64 0, .string ⟨#[]⟩, .slice none 0 0, .slice none 0 0] 28 (0, 0))) := (D0.trans (b2.mono (by omega))).trans (U2.mono hs2)
    have kC := kk w2.heap.size
    obtain ⟨C, hCe⟩ : ∃ C, w2.heap.size = C := ⟨_, rfl⟩
    rw [hCe] at hC hs2 kC ⊢
    have hCB : B0 ≠ C := by omega
    generalize w2.alloc (.cells #[.int .i64 0, .string ⟨#[]⟩, .slice none 0 0, .slice none 0 0] 28 (0, 0)) = w3 at *
    rw [Act.put_comm (x := some 13) (y := some 3) _ _ _ (by simp)]
    have G3 : Act.eval (Act.put (Act.put (Act.put (Act.put (Act.put (Act.put (Act.put (act) (some 8) (.pointer (some ⟨B0, 0, none⟩))) (some 9) (.int .i64 k)) (some 10) (.pointer (some ⟨B0, 1, none⟩))) (some 11) (.string s)) (some 12) (.string s)) (some 3) (.pointer (some ⟨C, 0, none⟩))) (some 13) (.agg #[.int .i64 k, .string s, .slice none 0 0, .slice none 0 0])) (.tmp 3) = .pointer (some ⟨C, 0, none⟩) := (by first | (with_reducible exact h1) | (with_reducible exact ev_same (by (try simp only [sz_put]); omega)) | (simp (disch := decide) only [ev_oth]; first | (with_reducible exact h1) | (with_reducible exact ev_same (by (try simp only [sz_put]); omega))))
    have G13 : Act.eval (Act.put (Act.put (Act.put (Act.put (Act.put (Act.put (Act.put (act) (some 8) (.pointer (some ⟨B0, 0, none⟩))) (some 9) (.int .i64 k)) (some 10) (.pointer (some ⟨B0, 1, none⟩))) (some 11) (.string s)) (some 12) (.string s)) (some 3) (.pointer (some ⟨C, 0, none⟩))) (some 13) (.agg #[.int .i64 k, .string s, .slice none 0 0, .slice none 0 0])) (.tmp 13) = .agg #[.int .i64 k, .string s, .slice none 0 0, .slice none 0 0] := (by first | (with_reducible exact h1) | (with_reducible exact ev_same (by (try simp only [sz_put]); omega)) | (simp (disch := decide) only [ev_oth]; first | (with_reducible exact h1) | (with_reducible exact ev_same (by (try simp only [sz_put]); omega))))
    obtain ⟨fb, hfb⟩ : ∃ c : Act, (Act.put (Act.put (Act.put (Act.put (Act.put (Act.put (Act.put (act) (some 8) (.pointer (some ⟨B0, 0, none⟩))) (some 9) (.int .i64 k)) (some 10) (.pointer (some ⟨B0, 1, none⟩))) (some 11) (.string s)) (some 12) (.string s)) (some 3) (.pointer (some ⟨C, 0, none⟩))) (some 13) (.agg #[.int .i64 k, .string s, .slice none 0 0, .slice none 0 0])) = c := ⟨_, rfl⟩
    rw [hfb] at G3 G13 kC ⊢
    clear hfb
    refine wpAnyH_ready (rs := [7]) (by kernel_rfl) (by simp) ?_
    refine AllReadyH.cons (o := { dst := none, op := .store 28 (.tmp 3) (.tmp 13), type := _, pos := _, after := _, guard := none }) rfl (fun K hK => ?_) AllReadyH.nil
    refine step_st4 rfl 3 13 rfl rfl w3 (b := C) (k := 0) G3 G13 (J4.there hC) ⟨rfl, rfl, rfl, rfl⟩ ?_
    have o4 := off_sets7 C [.int .i64 k, .string s, .slice none 0 0, .slice none 0 0] 0 w3
    refine hK.out _ _ (hH2.off o4 (fun e => hCB e)) (fun _ => ?_)
    clear hK K
    refine wpAnyH_done (by kernel_rfl) ?_ _
    refine NoPanic.normal ?_
    have hfin : Off (fun _ => False) w (w3.setCells C 0 [.int .i64 k, .string s, .slice none 0 0, .slice none 0 0]) := (Off.of_below BB).trans o4 (fun b h => .inr (by omega))
    exact kC _ hs2 (J4.stored hC _ _ _ _) (hfin.below (fun _ h => h.elim))
  · refine AllReadyH.cons (o := { dst := some 3, op := .alloc 28, type := _, pos := _, after := _, guard := none }) rfl (fun K hK => ?_) AllReadyH.nil
    refine step_al4 rfl rfl w0 ?_
    have U2 : Below w0.heap.size w0 (w0.alloc (.cells #[.int .i64 0, .string ⟨#[]⟩, .slice none 0 0, .slice none 0 0] 28 (0, 0))) := (Below.refl _ _).alloc (Nat.le_refl _) _
    have hC0 : JZ w0.heap.size (w0.alloc (.cells #[.int .i64 0, .string ⟨#[]⟩, .slice none 0 0, .slice none 0 0] 28 (0, 0))) := Blk.new _ w0
    refine hK.out _ _ (hHeld.below U2) (fun hH1 => ?_)
    clear hK K
    change wpAnyH _ _ _ _ _ _ _ (Act.put _ (some 3) _) _
    have B1 : Below w.heap.size w (w0.alloc (.cells #[.int .i64 0, .string ⟨#[]⟩, .slice none 0 0, .slice none 0 0] 28 (0, 0))) := D0.trans (U2.mono (by omega))
    have kC := kk w0.heap.size
    have hlt : w0.heap.size < (w0.alloc (.cells #[.int .i64 0, .string ⟨#[]⟩, .slice none 0 0, .slice none 0 0] 28 (0, 0))).heap.size := by simp
    obtain ⟨C, hCe⟩ : ∃ C, w0.heap.size = C := ⟨_, rfl⟩
    rw [hCe] at hC0 hlt kC ⊢
    have hs2 : w.heap.size ≤ C := by omega
    have hCB : B0 ≠ C := by omega
    generalize w0.alloc (.cells #[.int .i64 0, .string ⟨#[]⟩, .slice none 0 0, .slice none 0 0] 28 (0, 0)) = w2 at *
    refine wpAnyH_ready (rs := [4]) (by kernel_rfl) (by simp) ?_
    refine AllReadyH.cons (o := { dst := some 12, op := .call { callee := .value (.func 33), args := #[.tmp 11], argTypes := _ }, type := _, pos := _, after := _, guard := none }) rfl (fun K hK => ?_) AllReadyH.nil
    refine step_call1 rfl 33 (.tmp 11) _ rfl w2 (call_f33 _ _) (v := .string s) (by first | (with_reducible exact h1) | (with_reducible exact ev_same (by (try simp only [sz_put]); omega)) | (simp (disch := decide) only [ev_oth]; first | (with_reducible exact h1) | (with_reducible exact ev_same (by (try simp only [sz_put]); omega)))) (HC w2) ?_
    rintro e w3 ⟨rfl, b2⟩
    refine ⟨_, rfl, ?_⟩
    refine hK.out _ _ (hH1.below b2) (fun hH2 => ?_)
    clear hK K
    change wpAnyH _ _ _ _ _ _ _ (Act.put _ (some 12) _) _
    have hC := hC0.below b2
    have BB : Below w.heap.size w w3 := B1.trans (b2.mono (by omega))
    refine wpAnyH_take (i := 5) (v := .agg #[.int .i64 k, .string s, .slice none 0 0, .slice none 0 0]) rfl (by kernel_rfl) (by kernel_rfl) (by kernel_rfl) (fun _ _ _ h => h) (y_bld (by first | (with_reducible exact h1) | (with_reducible exact ev_same (by (try simp only [sz_put]); omega)) | (simp (disch := decide) only [ev_oth]; first | (with_reducible exact h1) | (with_reducible exact ev_same (by (try simp only [sz_put]); omega)))) (by first | (with_reducible exact h1) | (with_reducible exact ev_same (by (try simp only [sz_put]); omega)) | (simp (disch := decide) only [ev_oth]; first | (with_reducible exact h1) | (with_reducible exact ev_same (by (try simp only [sz_put]); omega))))) hH2 ?_
    change wpAnyH _ _ _ _ _ _ _ (Act.put _ (some 13) _) _
    rw [Act.put_comm (x := some 3) (y := some 12) _ _ _ (by simp)]
    have G3 : Act.eval (Act.put (Act.put (Act.put (Act.put (Act.put (Act.put (Act.put (act) (some 8) (.pointer (some ⟨B0, 0, none⟩))) (some 9) (.int .i64 k)) (some 10) (.pointer (some ⟨B0, 1, none⟩))) (some 11) (.string s)) (some 12) (.string s)) (some 3) (.pointer (some ⟨C, 0, none⟩))) (some 13) (.agg #[.int .i64 k, .string s, .slice none 0 0, .slice none 0 0])) (.tmp 3) = .pointer (some ⟨C, 0, none⟩) := (by first | (with_reducible exact h1) | (with_reducible exact ev_same (by (try simp only [sz_put]); omega)) | (simp (disch := decide) only [ev_oth]; first | (with_reducible exact h1) | (with_reducible exact ev_same (by (try simp only [sz_put]); omega))))
    have G13 : Act.eval (Act.put (Act.put (Act.put (Act.put (Act.put (Act.put (Act.put (act) (some 8) (.pointer (some ⟨B0, 0, none⟩))) (some 9) (.int .i64 k)) (some 10) (.pointer (some ⟨B0, 1, none⟩))) (some 11) (.string s)) (some 12) (.string s)) (some 3) (.pointer (some ⟨C, 0, none⟩))) (some 13) (.agg #[.int .i64 k, .string s, .slice none 0 0, .slice none 0 0])) (.tmp 13) = .agg #[.int .i64 k, .string s, .slice none 0 0, .slice none 0 0] := (by first | (with_reducible exact h1) | (with_reducible exact ev_same (by (try simp only [sz_put]); omega)) | (simp (disch := decide) only [ev_oth]; first | (with_reducible exact h1) | (with_reducible exact ev_same (by (try simp only [sz_put]); omega))))
    obtain ⟨fb, hfb⟩ : ∃ c : Act, (Act.put (Act.put (Act.put (Act.put (Act.put (Act.put (Act.put (act) (some 8) (.pointer (some ⟨B0, 0, none⟩))) (some 9) (.int .i64 k)) (some 10) (.pointer (some ⟨B0, 1, none⟩))) (some 11) (.string s)) (some 12) (.string s)) (some 3) (.pointer (some ⟨C, 0, none⟩))) (some 13) (.agg #[.int .i64 k, .string s, .slice none 0 0, .slice none 0 0])) = c := ⟨_, rfl⟩
    rw [hfb] at G3 G13 kC ⊢
    clear hfb
    refine wpAnyH_ready (rs := [7]) (by kernel_rfl) (by simp) ?_
    refine AllReadyH.cons (o := { dst := none, op := .store 28 (.tmp 3) (.tmp 13), type := _, pos := _, after := _, guard := none }) rfl (fun K hK => ?_) AllReadyH.nil
    refine step_st4 rfl 3 13 rfl rfl w3 (b := C) (k := 0) G3 G13 (J4.there hC) ⟨rfl, rfl, rfl, rfl⟩ ?_
    have o4 := off_sets7 C [.int .i64 k, .string s, .slice none 0 0, .slice none 0 0] 0 w3
    refine hK.out _ _ (hH2.off o4 (fun e => hCB e)) (fun _ => ?_)
    clear hK K
    refine wpAnyH_done (by kernel_rfl) ?_ _
    refine NoPanic.normal ?_
    have hfin : Off (fun _ => False) w (w3.setCells C 0 [.int .i64 k, .string s, .slice none 0 0, .slice none 0 0]) := (Off.of_below BB).trans o4 (fun b h => .inr (by omega))
    exact kC _ hs2 (J4.stored hC _ _ _ _) (hfin.below (fun _ h => h.elim))
theorem step_ldT {ops : Array Oper} {a : Act} {o : Oper} {K : Act → World → Prop} {Q : Exit → Act → World → Prop} {E : Prop} (hgd : o.guard = none) (t : Nat) (ho : o.op = .load 25 (.tmp t)) (w : World) {b k : Nat} {v : Value} (hx : a.eval (.tmp t) = .pointer (some ⟨b, k, none⟩)) (hc : w.cell? ⟨b, k, none⟩ = some v) (hs : ∃ A n c, v = .slice A n c)
    (h : K (a.put o.dst v) w) : if Region.wanted o (yielded ops a.tmps) = true then Oper.wp Tryd.prog o a w K Q else E := by
  have hw : Region.wanted o (yielded ops a.tmps) = true := by simp [Region.wanted, hgd]
  rw [if_pos hw]
  unfold Oper.wp
  obtain ⟨A, n, c, rfl⟩ := hs
  have run : (execOp a.eval o).run Tryd.prog w = .ok (.value (.slice A n c)) w := by
    clear h hw
    unfold execOp
    rw [ho]
    generalize a.eval = ev at *
    go_simp
  rw [run]
  exact h
theorem step_stT {ops : Array Oper} {a : Act} {o : Oper} {K : Act → World → Prop} {Q : Exit → Act → World → Prop} {E : Prop} (hgd : o.guard = none) (t u : Nat) (ho : o.op = .store 25 (.tmp t) (.tmp u)) (hd : o.dst = none) (w : World) {b k : Nat} {v old : Value} (hx : a.eval (.tmp t) = .pointer (some ⟨b, k, none⟩)) (hy : a.eval (.tmp u) = v) (hc : w.cell? ⟨b, k, none⟩ = some old) (hf : w.frozen? ⟨b, k, none⟩ = false) (hs : ∃ A n c, v = .slice A n c)
    (h : K a (w.setCell ⟨b, k, none⟩ v)) : if Region.wanted o (yielded ops a.tmps) = true then Oper.wp Tryd.prog o a w K Q else E := by
  have hw : Region.wanted o (yielded ops a.tmps) = true := by simp [Region.wanted, hgd]
  rw [if_pos hw]
  obtain ⟨A, n, c, rfl⟩ := hs
  have e0 : (⟨b, k, none⟩ : Addr).add 0 = ⟨b, k, none⟩ := by simp [Addr.add]
  have hst := run_store Tryd.prog w ⟨b, k, none⟩ (.slice A n c) .plain rfl
  rw [hc] at hst
  simp only [hf] at hst
  have hT : (Go.sizeOf 25).run Tryd.prog w = .ok 1 w := by
    have h : (Tryd.prog.info? 25).map (fun i => i.size) = some 1 := by kernel_rfl
    cases hi : Tryd.prog.info? 25 with
    | none => rw [hi] at h; cases h
    | some i => rw [hi] at h; simp at h; simp [sizeOf, typeInfo, hi, h]
  have hr : (Instr.storeAt 25 (.pointer (some ⟨b, k, none⟩)) (.slice A n c)).run Tryd.prog w = .ok () (w.setCell ⟨b, k, none⟩ (.slice A n c)) := by
    have hcl : (Value.slice A n c).cells = #[.slice A n c] := rfl
    simp [Instr.storeAt, Instr.sureAddr, storeVar, hT, hcl, storeCells, e0, hst]
  unfold Oper.wp execOp
  simp only [ho, hx, hy, Sem.run_bind, Sem.run_pure, Result.andThen_ok, hr]
  show K (a.put o.dst _) _
  rw [hd]
  exact h
theorem step_bsT {ops : Array Oper} {a : Act} {o : Oper} {K : Act → World → Prop} {Q : Exit → Act → World → Prop} {E : Prop} (hgd : o.guard = none) (s : Nat) (ho : o.op = .buildSlice 25 1 #[(0, .tmp s)]) (w : World) {z : ByteArray} (hx : a.eval (.tmp s) = .string z)
    (h : K (a.put o.dst (.slice (some ⟨w.heap.size, 0, none⟩) 1 1)) (w.alloc (.cells #[.string z] 9 (0, 0)))) :
    if Region.wanted o (yielded ops a.tmps) = true then Oper.wp Tryd.prog o a w K Q else E := by
  have hw : Region.wanted o (yielded ops a.tmps) = true := by simp [Region.wanted, hgd]
  rw [if_pos hw]
  unfold Oper.wp
  have run : (execOp a.eval o).run Tryd.prog w = .ok (.value (.slice (some ⟨w.heap.size, 0, none⟩) 1 1)) (w.alloc (.cells #[.string z] 9 (0, 0))) := by
    clear h hw
    unfold execOp
    rw [ho]
    generalize a.eval = ev at *
    go_simp
  rw [run]
  exact h
theorem step_bsV {ops : Array Oper} {a : Act} {o : Oper} {K : Act → World → Prop} {Q : Exit → Act → World → Prop} {E : Prop} (hgd : o.guard = none) (s : Nat) (ho : o.op = .buildSlice 26 1 #[(0, .tmp s)]) (w : World) {z0 z1 z2 z3 : Value} (h1 : One4 z0 z1 z2 z3) (hx : a.eval (.tmp s) = .agg #[z0, z1, z2, z3])
    (h : K (a.put o.dst (.slice (some ⟨w.heap.size, 0, none⟩) 1 1)) (w.alloc (.cells #[z0, z1, z2, z3] 28 (0, 0)))) :
    if Region.wanted o (yielded ops a.tmps) = true then Oper.wp Tryd.prog o a w K Q else E := by
  have hw : Region.wanted o (yielded ops a.tmps) = true := by simp [Region.wanted, hgd]
  rw [if_pos hw]
  unfold Oper.wp
  obtain ⟨q0, q1, q2, q3⟩ := h1
  have run : (execOp a.eval o).run Tryd.prog w = .ok (.value (.slice (some ⟨w.heap.size, 0, none⟩) 1 1)) (w.alloc (.cells #[z0, z1, z2, z3] 28 (0, 0))) := by
    clear h hw
    unfold execOp
    rw [ho]
    generalize a.eval = ev at *
    go_simp
  rw [run]
  exact h
/-- A name is put behind the names. -/
def PushedT (C : Nat) (k0 t0 nv lv nv' : Value) (ns' : List Bt) (w w' : World) : Prop :=
  J4 C k0 t0 nv' lv w' ∧ OwT w' (C + 1) nv' ns' ∧ Off (fun b => b = C ∨ nv.ownBlock = some b) w w' ∧ ∀ b, nv'.ownBlock = some b → nv.ownBlock = some b ∨ w.heap.size ≤ b
set_option maxRecDepth 100000 in
set_option maxHeartbeats 4000000 in
theorem regC5 {code : Code} {act : Act} {w : World} {Q : Exit → Act → World → Prop} {C : Nat} {k0 t0 nv lv : Value} {ns : List Bt} {y : Bt} (hcode : code = cl5) (hz : 44 < act.tmps.size) (h3 : act.eval (.tmp 3) = .pointer (some ⟨C, 0, none⟩)) (h1 : act.eval (.tmp 5) = .string (bs y))
    (HV : J4 C k0 t0 nv lv w) (HL : OwT w (C + 1) nv ns) (hn : ns.length ≤ 1000000) (HC : ∀ W, Calls Tryd.prog 33 #[.string (bs y)] W fun e w' => e = .returned (.string (bs y)) ∧ Below W.heap.size W w')
    (kk : ∀ y25 nv' w', PushedT C k0 t0 nv lv nv' (ns ++ [y]) w w' → Q .normal (Act.put (Act.put (Act.put (Act.put (Act.put (Act.put (Act.put (act) (some 21) (.pointer (some ⟨C, 2, none⟩))) (some 23) (.string (bs y))) (some 22) nv) (some 24) (.string (bs y))) (some 25) y25) (some 26) nv') (some 27) (.pointer (some ⟨C, 2, none⟩))) w') : code.wp Tryd.prog Q act w := by
  subst hcode
  have hlv : ∃ A c, nv = .slice A ns.length c := by
    rcases HL.2 with ⟨e, h0⟩ | ⟨g, cap, cur, e, _⟩
    · exact ⟨none, 0, by rw [e, h0]⟩
    · exact ⟨_, cap, e⟩
  have hVl : nv.ownBlock ≠ some C := fun h => by have := World.ownsRow.lt HL C h; omega
  have hCl : C < w.heap.size := HV.lt
  conv => arg 2; whnf
  refine wp_region_noPanic ?_
  refine wp_region_held_drew (S := fun _ => True) (by kernel_rfl) trivial (fun hHeld => ?_)
  refine wpAnyH_take (i := 0) (v := .pointer (some ⟨C, 2, none⟩)) rfl (by kernel_rfl) (by kernel_rfl) (by kernel_rfl) (fun _ _ _ h => h) (y_fa2 (by first | (with_reducible exact h3) | (with_reducible exact ev_same (by (try simp only [sz_put]); omega)) | (simp (disch := decide) only [ev_oth]; first | (with_reducible exact h3) | (with_reducible exact ev_same (by (try simp only [sz_put]); omega))))) hHeld ?_
  change wpAnyH _ _ _ _ _ _ _ (Act.put _ (some 21) _) _
  refine wpAnyH_take (i := 2) (v := .string (bs y)) rfl (by kernel_rfl) (by kernel_rfl) (by kernel_rfl) (fun _ _ _ h => h) (y_move (by first | (with_reducible exact h1) | (with_reducible exact ev_same (by (try simp only [sz_put]); omega)) | (simp (disch := decide) only [ev_oth]; first | (with_reducible exact h1) | (with_reducible exact ev_same (by (try simp only [sz_put]); omega))))) hHeld ?_
  change wpAnyH _ _ _ _ _ _ _ (Act.put _ (some 23) _) _
  have g3 : Act.eval (Act.put (Act.put (act) (some 21) (.pointer (some ⟨C, 2, none⟩))) (some 23) (.string (bs y))) (.tmp 3) = .pointer (some ⟨C, 0, none⟩) := (by first | (with_reducible exact h3) | (with_reducible exact ev_same (by (try simp only [sz_put]); omega)) | (simp (disch := decide) only [ev_oth]; first | (with_reducible exact h3) | (with_reducible exact ev_same (by (try simp only [sz_put]); omega))))
  have gfa : Act.eval (Act.put (Act.put (act) (some 21) (.pointer (some ⟨C, 2, none⟩))) (some 23) (.string (bs y))) (.tmp 21) = .pointer (some ⟨C, 2, none⟩) := (by first | (with_reducible exact h1) | (with_reducible exact ev_same (by (try simp only [sz_put]); omega)) | (simp (disch := decide) only [ev_oth]; first | (with_reducible exact h1) | (with_reducible exact ev_same (by (try simp only [sz_put]); omega))))
  have gmv : Act.eval (Act.put (Act.put (act) (some 21) (.pointer (some ⟨C, 2, none⟩))) (some 23) (.string (bs y))) (.tmp 23) = (.string (bs y)) := (by first | (with_reducible exact h1) | (with_reducible exact ev_same (by (try simp only [sz_put]); omega)) | (simp (disch := decide) only [ev_oth]; first | (with_reducible exact h1) | (with_reducible exact ev_same (by (try simp only [sz_put]); omega))))
  have gsz : 44 < (Act.put (Act.put (act) (some 21) (.pointer (some ⟨C, 2, none⟩))) (some 23) (.string (bs y))).tmps.size := by simp only [sz_put]; omega
  obtain ⟨fa, hfa⟩ : ∃ c : Act, (Act.put (Act.put (act) (some 21) (.pointer (some ⟨C, 2, none⟩))) (some 23) (.string (bs y))) = c := ⟨_, rfl⟩
  rw [hfa] at g3 gfa gmv gsz kk ⊢
  clear hfa h1 h3 hz
  have D0 : Below w.heap.size w w.drew := below_drewN (Below.refl _ _) 1
  have hs0 : w.drew.heap.size = w.heap.size := rfl
  have V0 := HV.below D0
  have L0 : OwT w.drew (C + 1) nv ns := own_off HL (Off.of_below D0) (fun _ _ h => h)
  generalize w.drew = w0 at *
  refine wpAnyH_ready (rs := [1, 3]) (by kernel_rfl) (by simp) ?_
  refine AllReadyH.cons (o := { dst := some 22, op := .load 25 (.tmp 21), type := _, pos := _, after := _, guard := none }) rfl (fun K hK => ?_) ?_
  · refine step_ldT rfl 21 rfl w0 (by first | (with_reducible exact gfa) | (with_reducible exact ev_same (by (try simp only [sz_put]); omega)) | (simp (disch := decide) only [ev_oth]; first | (with_reducible exact gfa) | (with_reducible exact ev_same (by (try simp only [sz_put]); omega)))) V0.c2 (by obtain ⟨A, c, h⟩ := hlv; exact ⟨A, _, c, h⟩) ?_
    refine hK.out _ _ trivial (fun hH1 => ?_)
    clear hK K
    change wpAnyH _ _ _ _ _ _ _ (Act.put _ (some 22) _) _
    refine wpAnyH_ready (rs := [3]) (by kernel_rfl) (by simp) ?_
    refine AllReadyH.cons (o := { dst := some 24, op := .call { callee := .value (.func 33), args := #[.tmp 23], argTypes := _ }, type := _, pos := _, after := _, guard := none }) rfl (fun K hK => ?_) AllReadyH.nil
    refine step_call1 rfl 33 (.tmp 23) _ rfl w0 (call_f33 _ _) (v := (.string (bs y))) (by first | (with_reducible exact gmv) | (with_reducible exact ev_same (by (try simp only [sz_put]); omega)) | (simp (disch := decide) only [ev_oth]; first | (with_reducible exact gmv) | (with_reducible exact ev_same (by (try simp only [sz_put]); omega)))) (HC w0) ?_
    rintro e w1 ⟨rfl, b1⟩
    refine ⟨_, rfl, ?_⟩
    refine hK.out _ _ trivial (fun hH2 => ?_)
    clear hK K
    change wpAnyH _ _ _ _ _ _ _ (Act.put _ (some 24) _) _
    have V1 := V0.below b1
    have L1 : OwT w1 (C + 1) nv ns := own_off L0 (Off.of_below b1) (fun _ _ h => h)
    have hs1 := b1.size
    have B1 : Below w.heap.size w w1 := D0.trans (b1.mono (by omega))
    refine wpAnyH_ready (rs := [4]) (by kernel_rfl) (by simp) ?_
    refine AllReadyH.cons (o := { dst := some 25, op := .buildSlice 25 1 #[(0, .tmp 24)], type := _, pos := _, after := _, guard := none }) rfl (fun K hK => ?_) AllReadyH.nil
    refine step_bsT rfl 24 rfl w1 (by first | (with_reducible exact gmv) | (with_reducible exact ev_same (by (try simp only [sz_put]); omega)) | (simp (disch := decide) only [ev_oth]; first | (with_reducible exact gmv) | (with_reducible exact ev_same (by (try simp only [sz_put]); omega)))) ?_
    have UB : Below w1.heap.size w1 (w1.alloc (.cells #[.string (bs y)] 9 (0, 0))) := (Below.refl _ _).alloc (Nat.le_refl _) _
    refine hK.out _ _ trivial (fun hH3 => ?_)
    clear hK K
    change wpAnyH _ _ _ _ _ _ _ (Act.put _ (some 25) _) _
    have Gld : Act.eval (Act.put (Act.put (Act.put (fa) (some 22) nv) (some 24) (.string (bs y))) (some 25) (.slice (some ⟨w1.heap.size, 0, none⟩) 1 1)) (.tmp 22) = nv := (by first | (with_reducible exact gfa) | (with_reducible exact ev_same (by (try simp only [sz_put]); omega)) | (simp (disch := decide) only [ev_oth]; first | (with_reducible exact gfa) | (with_reducible exact ev_same (by (try simp only [sz_put]); omega))))
    have Gbs : Act.eval (Act.put (Act.put (Act.put (fa) (some 22) nv) (some 24) (.string (bs y))) (some 25) (.slice (some ⟨w1.heap.size, 0, none⟩) 1 1)) (.tmp 25) = .slice (some ⟨w1.heap.size, 0, none⟩) 1 1 := (by first | (with_reducible exact gfa) | (with_reducible exact ev_same (by (try simp only [sz_put]); omega)) | (simp (disch := decide) only [ev_oth]; first | (with_reducible exact gfa) | (with_reducible exact ev_same (by (try simp only [sz_put]); omega))))
    have G3 : Act.eval (Act.put (Act.put (Act.put (fa) (some 22) nv) (some 24) (.string (bs y))) (some 25) (.slice (some ⟨w1.heap.size, 0, none⟩) 1 1)) (.tmp 3) = .pointer (some ⟨C, 0, none⟩) := (by first | (with_reducible exact g3) | (with_reducible exact ev_same (by (try simp only [sz_put]); omega)) | (simp (disch := decide) only [ev_oth]; first | (with_reducible exact g3) | (with_reducible exact ev_same (by (try simp only [sz_put]); omega))))
    have Gsz : 44 < (Act.put (Act.put (Act.put (fa) (some 22) nv) (some 24) (.string (bs y))) (some 25) (.slice (some ⟨w1.heap.size, 0, none⟩) 1 1)).tmps.size := by simp only [sz_put]; omega
    have k2 := kk (.slice (some ⟨w1.heap.size, 0, none⟩) 1 1)
    obtain ⟨fb, hfb⟩ : ∃ c : Act, (Act.put (Act.put (Act.put (fa) (some 22) nv) (some 24) (.string (bs y))) (some 25) (.slice (some ⟨w1.heap.size, 0, none⟩) 1 1)) = c := ⟨_, rfl⟩
    rw [hfb] at Gld Gbs G3 Gsz k2 ⊢
    clear hfb
    refine wpAnyH_ready (rs := [5]) (by kernel_rfl) (by simp) ?_
    refine AllReadyH.cons (o := { dst := some 26, op := .call { callee := .builtin .append, args := #[.tmp 22, .tmp 25], argTypes := #[25, 25] }, type := _, pos := _, after := _, guard := none }) rfl (fun K hK => ?_) AllReadyH.nil
    refine step_appT7 rfl (.tmp 22) (.tmp 25) rfl w1 (C + 1) nv ns y Gld L1 Gbs (by omega) (by omega) ?_
    intro g cap w3 L3 o3 at3
    refine hK.out _ _ trivial (fun hHt => ?_)
    clear hK K
    change wpAnyH _ _ _ _ _ _ _ (Act.put _ (some 26) _) _
    have V3 := V1.off o3 (fun h => hVl h)
    refine wpAnyH_take (i := 6) (v := .pointer (some ⟨C, 2, none⟩)) rfl (by kernel_rfl) (by kernel_rfl) (by kernel_rfl) (fun _ _ _ h => h) (y_fa2 (by first | (with_reducible exact G3) | (with_reducible exact ev_same (by (try simp only [sz_put]); omega)) | (simp (disch := decide) only [ev_oth]; first | (with_reducible exact G3) | (with_reducible exact ev_same (by (try simp only [sz_put]); omega))))) hHt ?_
    change wpAnyH _ _ _ _ _ _ _ (Act.put _ (some 27) _) _
    have G27 : Act.eval (Act.put (Act.put fb (some 26) (.slice (some ⟨g, 0, none⟩) (ns.length + 1) cap)) (some 27) (.pointer (some ⟨C, 2, none⟩))) (.tmp 27) = .pointer (some ⟨C, 2, none⟩) := (by first | (with_reducible exact G3) | (with_reducible exact ev_same (by (try simp only [sz_put]); omega)) | (simp (disch := decide) only [ev_oth]; first | (with_reducible exact G3) | (with_reducible exact ev_same (by (try simp only [sz_put]); omega))))
    have G26 : Act.eval (Act.put (Act.put fb (some 26) (.slice (some ⟨g, 0, none⟩) (ns.length + 1) cap)) (some 27) (.pointer (some ⟨C, 2, none⟩))) (.tmp 26) = .slice (some ⟨g, 0, none⟩) (ns.length + 1) cap := (by first | (with_reducible exact G3) | (with_reducible exact ev_same (by (try simp only [sz_put]); omega)) | (simp (disch := decide) only [ev_oth]; first | (with_reducible exact G3) | (with_reducible exact ev_same (by (try simp only [sz_put]); omega))))
    have k3 := k2 (.slice (some ⟨g, 0, none⟩) (ns.length + 1) cap)
    obtain ⟨fc, hfc⟩ : ∃ c : Act, (Act.put (Act.put fb (some 26) (.slice (some ⟨g, 0, none⟩) (ns.length + 1) cap)) (some 27) (.pointer (some ⟨C, 2, none⟩))) = c := ⟨_, rfl⟩
    rw [hfc] at G27 G26 k3 ⊢
    clear hfc
    refine wpAnyH_ready (rs := [7]) (by kernel_rfl) (by simp) ?_
    refine AllReadyH.cons (o := { dst := none, op := .store 25 (.tmp 27) (.tmp 26), type := _, pos := _, after := _, guard := none }) rfl (fun K hK => ?_) AllReadyH.nil
    refine step_stT rfl 27 26 rfl rfl w3 (b := C) (k := 2) G27 G26 V3.c2 (V3.free 2) ⟨_, _, _, rfl⟩ ?_
    have o4 := off_set7 w3 C 2 (.slice (some ⟨g, 0, none⟩) (ns.length + 1) cap)
    have hgC : g ≠ C := fun e => by
      have := World.ownsRow.lt L3 g rfl
      omega
    have L4 : OwT (w3.setCell ⟨C, 2, none⟩ (.slice (some ⟨g, 0, none⟩) (ns.length + 1) cap)) (C + 1) (.slice (some ⟨g, 0, none⟩) (ns.length + 1) cap) (ns ++ [y]) := own_off L3 o4 (fun b hb h => by have : g = b := Option.some.inj hb; omega)
    have V4 : J4 C k0 t0 (.slice (some ⟨g, 0, none⟩) (ns.length + 1) cap) lv (w3.setCell ⟨C, 2, none⟩ (.slice (some ⟨g, 0, none⟩) (ns.length + 1) cap)) := V3.set 2 (.slice (some ⟨g, 0, none⟩) (ns.length + 1) cap)
    refine hK.out _ _ trivial (fun _ => ?_)
    clear hK K
    refine wpAnyH_done (by kernel_rfl) ?_ _
    refine NoPanic.normal ?_
    have O3 : Off (fun b => b = C ∨ nv.ownBlock = some b) w w3 := ((Off.of_below B1).mono (fun _ h => h.elim)).trans (o3.mono (fun b h => .inr h)) (fun _ h => .inl h)
    have hs3 := o3.size
    exact k3 _ ⟨V4, L4, O3.trans o4 (fun b h => .inl (.inl h)), fun b hb => (at3 b hb).imp id (fun h => by omega)⟩
  · refine AllReadyH.cons (o := { dst := some 24, op := .call { callee := .value (.func 33), args := #[.tmp 23], argTypes := _ }, type := _, pos := _, after := _, guard := none }) rfl (fun K hK => ?_) AllReadyH.nil
    refine step_call1 rfl 33 (.tmp 23) _ rfl w0 (call_f33 _ _) (v := (.string (bs y))) (by first | (with_reducible exact gmv) | (with_reducible exact ev_same (by (try simp only [sz_put]); omega)) | (simp (disch := decide) only [ev_oth]; first | (with_reducible exact gmv) | (with_reducible exact ev_same (by (try simp only [sz_put]); omega)))) (HC w0) ?_
    rintro e w1 ⟨rfl, b1⟩
    refine ⟨_, rfl, ?_⟩
    refine hK.out _ _ trivial (fun hH1 => ?_)
    clear hK K
    change wpAnyH _ _ _ _ _ _ _ (Act.put _ (some 24) _) _
    have V1 := V0.below b1
    have L1 : OwT w1 (C + 1) nv ns := own_off L0 (Off.of_below b1) (fun _ _ h => h)
    have hs1 := b1.size
    have B1 : Below w.heap.size w w1 := D0.trans (b1.mono (by omega))
    refine wpAnyH_ready (rs := [1, 4]) (by kernel_rfl) (by simp) ?_
    refine AllReadyH.cons (o := { dst := some 22, op := .load 25 (.tmp 21), type := _, pos := _, after := _, guard := none }) rfl (fun K hK => ?_) ?_
    · refine step_ldT rfl 21 rfl w1 (by first | (with_reducible exact gfa) | (with_reducible exact ev_same (by (try simp only [sz_put]); omega)) | (simp (disch := decide) only [ev_oth]; first | (with_reducible exact gfa) | (with_reducible exact ev_same (by (try simp only [sz_put]); omega)))) V1.c2 (by obtain ⟨A, c, h⟩ := hlv; exact ⟨A, _, c, h⟩) ?_
      refine hK.out _ _ trivial (fun hH2 => ?_)
      clear hK K
      change wpAnyH _ _ _ _ _ _ _ (Act.put _ (some 22) _) _
      rw [Act.put_comm (x := some 24) (y := some 22) _ _ _ (by simp)]
      refine wpAnyH_ready (rs := [4]) (by kernel_rfl) (by simp) ?_
      refine AllReadyH.cons (o := { dst := some 25, op := .buildSlice 25 1 #[(0, .tmp 24)], type := _, pos := _, after := _, guard := none }) rfl (fun K hK => ?_) AllReadyH.nil
      refine step_bsT rfl 24 rfl w1 (by first | (with_reducible exact gmv) | (with_reducible exact ev_same (by (try simp only [sz_put]); omega)) | (simp (disch := decide) only [ev_oth]; first | (with_reducible exact gmv) | (with_reducible exact ev_same (by (try simp only [sz_put]); omega)))) ?_
      have UB : Below w1.heap.size w1 (w1.alloc (.cells #[.string (bs y)] 9 (0, 0))) := (Below.refl _ _).alloc (Nat.le_refl _) _
      refine hK.out _ _ trivial (fun hH3 => ?_)
      clear hK K
      change wpAnyH _ _ _ _ _ _ _ (Act.put _ (some 25) _) _
      have Gld : Act.eval (Act.put (Act.put (Act.put (fa) (some 22) nv) (some 24) (.string (bs y))) (some 25) (.slice (some ⟨w1.heap.size, 0, none⟩) 1 1)) (.tmp 22) = nv := (by first | (with_reducible exact gfa) | (with_reducible exact ev_same (by (try simp only [sz_put]); omega)) | (simp (disch := decide) only [ev_oth]; first | (with_reducible exact gfa) | (with_reducible exact ev_same (by (try simp only [sz_put]); omega))))
      have Gbs : Act.eval (Act.put (Act.put (Act.put (fa) (some 22) nv) (some 24) (.string (bs y))) (some 25) (.slice (some ⟨w1.heap.size, 0, none⟩) 1 1)) (.tmp 25) = .slice (some ⟨w1.heap.size, 0, none⟩) 1 1 := (by first | (with_reducible exact gfa) | (with_reducible exact ev_same (by (try simp only [sz_put]); omega)) | (simp (disch := decide) only [ev_oth]; first | (with_reducible exact gfa) | (with_reducible exact ev_same (by (try simp only [sz_put]); omega))))
      have G3 : Act.eval (Act.put (Act.put (Act.put (fa) (some 22) nv) (some 24) (.string (bs y))) (some 25) (.slice (some ⟨w1.heap.size, 0, none⟩) 1 1)) (.tmp 3) = .pointer (some ⟨C, 0, none⟩) := (by first | (with_reducible exact g3) | (with_reducible exact ev_same (by (try simp only [sz_put]); omega)) | (simp (disch := decide) only [ev_oth]; first | (with_reducible exact g3) | (with_reducible exact ev_same (by (try simp only [sz_put]); omega))))
      have Gsz : 44 < (Act.put (Act.put (Act.put (fa) (some 22) nv) (some 24) (.string (bs y))) (some 25) (.slice (some ⟨w1.heap.size, 0, none⟩) 1 1)).tmps.size := by simp only [sz_put]; omega
      have k2 := kk (.slice (some ⟨w1.heap.size, 0, none⟩) 1 1)
      obtain ⟨fb, hfb⟩ : ∃ c : Act, (Act.put (Act.put (Act.put (fa) (some 22) nv) (some 24) (.string (bs y))) (some 25) (.slice (some ⟨w1.heap.size, 0, none⟩) 1 1)) = c := ⟨_, rfl⟩
      rw [hfb] at Gld Gbs G3 Gsz k2 ⊢
      clear hfb
      refine wpAnyH_ready (rs := [5]) (by kernel_rfl) (by simp) ?_
      refine AllReadyH.cons (o := { dst := some 26, op := .call { callee := .builtin .append, args := #[.tmp 22, .tmp 25], argTypes := #[25, 25] }, type := _, pos := _, after := _, guard := none }) rfl (fun K hK => ?_) AllReadyH.nil
      refine step_appT7 rfl (.tmp 22) (.tmp 25) rfl w1 (C + 1) nv ns y Gld L1 Gbs (by omega) (by omega) ?_
      intro g cap w3 L3 o3 at3
      refine hK.out _ _ trivial (fun hHt => ?_)
      clear hK K
      change wpAnyH _ _ _ _ _ _ _ (Act.put _ (some 26) _) _
      have V3 := V1.off o3 (fun h => hVl h)
      refine wpAnyH_take (i := 6) (v := .pointer (some ⟨C, 2, none⟩)) rfl (by kernel_rfl) (by kernel_rfl) (by kernel_rfl) (fun _ _ _ h => h) (y_fa2 (by first | (with_reducible exact G3) | (with_reducible exact ev_same (by (try simp only [sz_put]); omega)) | (simp (disch := decide) only [ev_oth]; first | (with_reducible exact G3) | (with_reducible exact ev_same (by (try simp only [sz_put]); omega))))) hHt ?_
      change wpAnyH _ _ _ _ _ _ _ (Act.put _ (some 27) _) _
      have G27 : Act.eval (Act.put (Act.put fb (some 26) (.slice (some ⟨g, 0, none⟩) (ns.length + 1) cap)) (some 27) (.pointer (some ⟨C, 2, none⟩))) (.tmp 27) = .pointer (some ⟨C, 2, none⟩) := (by first | (with_reducible exact G3) | (with_reducible exact ev_same (by (try simp only [sz_put]); omega)) | (simp (disch := decide) only [ev_oth]; first | (with_reducible exact G3) | (with_reducible exact ev_same (by (try simp only [sz_put]); omega))))
      have G26 : Act.eval (Act.put (Act.put fb (some 26) (.slice (some ⟨g, 0, none⟩) (ns.length + 1) cap)) (some 27) (.pointer (some ⟨C, 2, none⟩))) (.tmp 26) = .slice (some ⟨g, 0, none⟩) (ns.length + 1) cap := (by first | (with_reducible exact G3) | (with_reducible exact ev_same (by (try simp only [sz_put]); omega)) | (simp (disch := decide) only [ev_oth]; first | (with_reducible exact G3) | (with_reducible exact ev_same (by (try simp only [sz_put]); omega))))
      have k3 := k2 (.slice (some ⟨g, 0, none⟩) (ns.length + 1) cap)
      obtain ⟨fc, hfc⟩ : ∃ c : Act, (Act.put (Act.put fb (some 26) (.slice (some ⟨g, 0, none⟩) (ns.length + 1) cap)) (some 27) (.pointer (some ⟨C, 2, none⟩))) = c := ⟨_, rfl⟩
      rw [hfc] at G27 G26 k3 ⊢
      clear hfc
      refine wpAnyH_ready (rs := [7]) (by kernel_rfl) (by simp) ?_
      refine AllReadyH.cons (o := { dst := none, op := .store 25 (.tmp 27) (.tmp 26), type := _, pos := _, after := _, guard := none }) rfl (fun K hK => ?_) AllReadyH.nil
      refine step_stT rfl 27 26 rfl rfl w3 (b := C) (k := 2) G27 G26 V3.c2 (V3.free 2) ⟨_, _, _, rfl⟩ ?_
      have o4 := off_set7 w3 C 2 (.slice (some ⟨g, 0, none⟩) (ns.length + 1) cap)
      have hgC : g ≠ C := fun e => by
        have := World.ownsRow.lt L3 g rfl
        omega
      have L4 : OwT (w3.setCell ⟨C, 2, none⟩ (.slice (some ⟨g, 0, none⟩) (ns.length + 1) cap)) (C + 1) (.slice (some ⟨g, 0, none⟩) (ns.length + 1) cap) (ns ++ [y]) := own_off L3 o4 (fun b hb h => by have : g = b := Option.some.inj hb; omega)
      have V4 : J4 C k0 t0 (.slice (some ⟨g, 0, none⟩) (ns.length + 1) cap) lv (w3.setCell ⟨C, 2, none⟩ (.slice (some ⟨g, 0, none⟩) (ns.length + 1) cap)) := V3.set 2 (.slice (some ⟨g, 0, none⟩) (ns.length + 1) cap)
      refine hK.out _ _ trivial (fun _ => ?_)
      clear hK K
      refine wpAnyH_done (by kernel_rfl) ?_ _
      refine NoPanic.normal ?_
      have O3 : Off (fun b => b = C ∨ nv.ownBlock = some b) w w3 := ((Off.of_below B1).mono (fun _ h => h.elim)).trans (o3.mono (fun b h => .inr h)) (fun _ h => .inl h)
      have hs3 := o3.size
      exact k3 _ ⟨V4, L4, O3.trans o4 (fun b h => .inl (.inl h)), fun b hb => (at3 b hb).imp id (fun h => by omega)⟩
    · refine AllReadyH.cons (o := { dst := some 25, op := .buildSlice 25 1 #[(0, .tmp 24)], type := _, pos := _, after := _, guard := none }) rfl (fun K hK => ?_) AllReadyH.nil
      refine step_bsT rfl 24 rfl w1 (by first | (with_reducible exact gmv) | (with_reducible exact ev_same (by (try simp only [sz_put]); omega)) | (simp (disch := decide) only [ev_oth]; first | (with_reducible exact gmv) | (with_reducible exact ev_same (by (try simp only [sz_put]); omega)))) ?_
      have UB : Below w1.heap.size w1 (w1.alloc (.cells #[.string (bs y)] 9 (0, 0))) := (Below.refl _ _).alloc (Nat.le_refl _) _
      refine hK.out _ _ trivial (fun hH2 => ?_)
      clear hK K
      change wpAnyH _ _ _ _ _ _ _ (Act.put _ (some 25) _) _
      have VB := V1.below UB
      refine wpAnyH_ready (rs := [1]) (by kernel_rfl) (by simp) ?_
      refine AllReadyH.cons (o := { dst := some 22, op := .load 25 (.tmp 21), type := _, pos := _, after := _, guard := none }) rfl (fun K hK => ?_) AllReadyH.nil
      refine step_ldT rfl 21 rfl (w1.alloc (.cells #[.string (bs y)] 9 (0, 0))) (by first | (with_reducible exact gfa) | (with_reducible exact ev_same (by (try simp only [sz_put]); omega)) | (simp (disch := decide) only [ev_oth]; first | (with_reducible exact gfa) | (with_reducible exact ev_same (by (try simp only [sz_put]); omega)))) VB.c2 (by obtain ⟨A, c, h⟩ := hlv; exact ⟨A, _, c, h⟩) ?_
      refine hK.out _ _ trivial (fun hH3 => ?_)
      clear hK K
      change wpAnyH _ _ _ _ _ _ _ (Act.put _ (some 22) _) _
      rw [Act.put_comm (x := some 25) (y := some 22) _ _ _ (by simp), Act.put_comm (x := some 24) (y := some 22) _ _ _ (by simp)]
      have Gld : Act.eval (Act.put (Act.put (Act.put (fa) (some 22) nv) (some 24) (.string (bs y))) (some 25) (.slice (some ⟨w1.heap.size, 0, none⟩) 1 1)) (.tmp 22) = nv := (by first | (with_reducible exact gfa) | (with_reducible exact ev_same (by (try simp only [sz_put]); omega)) | (simp (disch := decide) only [ev_oth]; first | (with_reducible exact gfa) | (with_reducible exact ev_same (by (try simp only [sz_put]); omega))))
      have Gbs : Act.eval (Act.put (Act.put (Act.put (fa) (some 22) nv) (some 24) (.string (bs y))) (some 25) (.slice (some ⟨w1.heap.size, 0, none⟩) 1 1)) (.tmp 25) = .slice (some ⟨w1.heap.size, 0, none⟩) 1 1 := (by first | (with_reducible exact gfa) | (with_reducible exact ev_same (by (try simp only [sz_put]); omega)) | (simp (disch := decide) only [ev_oth]; first | (with_reducible exact gfa) | (with_reducible exact ev_same (by (try simp only [sz_put]); omega))))
      have G3 : Act.eval (Act.put (Act.put (Act.put (fa) (some 22) nv) (some 24) (.string (bs y))) (some 25) (.slice (some ⟨w1.heap.size, 0, none⟩) 1 1)) (.tmp 3) = .pointer (some ⟨C, 0, none⟩) := (by first | (with_reducible exact g3) | (with_reducible exact ev_same (by (try simp only [sz_put]); omega)) | (simp (disch := decide) only [ev_oth]; first | (with_reducible exact g3) | (with_reducible exact ev_same (by (try simp only [sz_put]); omega))))
      have Gsz : 44 < (Act.put (Act.put (Act.put (fa) (some 22) nv) (some 24) (.string (bs y))) (some 25) (.slice (some ⟨w1.heap.size, 0, none⟩) 1 1)).tmps.size := by simp only [sz_put]; omega
      have k2 := kk (.slice (some ⟨w1.heap.size, 0, none⟩) 1 1)
      obtain ⟨fb, hfb⟩ : ∃ c : Act, (Act.put (Act.put (Act.put (fa) (some 22) nv) (some 24) (.string (bs y))) (some 25) (.slice (some ⟨w1.heap.size, 0, none⟩) 1 1)) = c := ⟨_, rfl⟩
      rw [hfb] at Gld Gbs G3 Gsz k2 ⊢
      clear hfb
      refine wpAnyH_ready (rs := [5]) (by kernel_rfl) (by simp) ?_
      refine AllReadyH.cons (o := { dst := some 26, op := .call { callee := .builtin .append, args := #[.tmp 22, .tmp 25], argTypes := #[25, 25] }, type := _, pos := _, after := _, guard := none }) rfl (fun K hK => ?_) AllReadyH.nil
      refine step_appT7 rfl (.tmp 22) (.tmp 25) rfl w1 (C + 1) nv ns y Gld L1 Gbs (by omega) (by omega) ?_
      intro g cap w3 L3 o3 at3
      refine hK.out _ _ trivial (fun hHt => ?_)
      clear hK K
      change wpAnyH _ _ _ _ _ _ _ (Act.put _ (some 26) _) _
      have V3 := V1.off o3 (fun h => hVl h)
      refine wpAnyH_take (i := 6) (v := .pointer (some ⟨C, 2, none⟩)) rfl (by kernel_rfl) (by kernel_rfl) (by kernel_rfl) (fun _ _ _ h => h) (y_fa2 (by first | (with_reducible exact G3) | (with_reducible exact ev_same (by (try simp only [sz_put]); omega)) | (simp (disch := decide) only [ev_oth]; first | (with_reducible exact G3) | (with_reducible exact ev_same (by (try simp only [sz_put]); omega))))) hHt ?_
      change wpAnyH _ _ _ _ _ _ _ (Act.put _ (some 27) _) _
      have G27 : Act.eval (Act.put (Act.put fb (some 26) (.slice (some ⟨g, 0, none⟩) (ns.length + 1) cap)) (some 27) (.pointer (some ⟨C, 2, none⟩))) (.tmp 27) = .pointer (some ⟨C, 2, none⟩) := (by first | (with_reducible exact G3) | (with_reducible exact ev_same (by (try simp only [sz_put]); omega)) | (simp (disch := decide) only [ev_oth]; first | (with_reducible exact G3) | (with_reducible exact ev_same (by (try simp only [sz_put]); omega))))
      have G26 : Act.eval (Act.put (Act.put fb (some 26) (.slice (some ⟨g, 0, none⟩) (ns.length + 1) cap)) (some 27) (.pointer (some ⟨C, 2, none⟩))) (.tmp 26) = .slice (some ⟨g, 0, none⟩) (ns.length + 1) cap := (by first | (with_reducible exact G3) | (with_reducible exact ev_same (by (try simp only [sz_put]); omega)) | (simp (disch := decide) only [ev_oth]; first | (with_reducible exact G3) | (with_reducible exact ev_same (by (try simp only [sz_put]); omega))))
      have k3 := k2 (.slice (some ⟨g, 0, none⟩) (ns.length + 1) cap)
      obtain ⟨fc, hfc⟩ : ∃ c : Act, (Act.put (Act.put fb (some 26) (.slice (some ⟨g, 0, none⟩) (ns.length + 1) cap)) (some 27) (.pointer (some ⟨C, 2, none⟩))) = c := ⟨_, rfl⟩
      rw [hfc] at G27 G26 k3 ⊢
      clear hfc
      refine wpAnyH_ready (rs := [7]) (by kernel_rfl) (by simp) ?_
      refine AllReadyH.cons (o := { dst := none, op := .store 25 (.tmp 27) (.tmp 26), type := _, pos := _, after := _, guard := none }) rfl (fun K hK => ?_) AllReadyH.nil
      refine step_stT rfl 27 26 rfl rfl w3 (b := C) (k := 2) G27 G26 V3.c2 (V3.free 2) ⟨_, _, _, rfl⟩ ?_
      have o4 := off_set7 w3 C 2 (.slice (some ⟨g, 0, none⟩) (ns.length + 1) cap)
      have hgC : g ≠ C := fun e => by
        have := World.ownsRow.lt L3 g rfl
        omega
      have L4 : OwT (w3.setCell ⟨C, 2, none⟩ (.slice (some ⟨g, 0, none⟩) (ns.length + 1) cap)) (C + 1) (.slice (some ⟨g, 0, none⟩) (ns.length + 1) cap) (ns ++ [y]) := own_off L3 o4 (fun b hb h => by have : g = b := Option.some.inj hb; omega)
      have V4 : J4 C k0 t0 (.slice (some ⟨g, 0, none⟩) (ns.length + 1) cap) lv (w3.setCell ⟨C, 2, none⟩ (.slice (some ⟨g, 0, none⟩) (ns.length + 1) cap)) := V3.set 2 (.slice (some ⟨g, 0, none⟩) (ns.length + 1) cap)
      refine hK.out _ _ trivial (fun _ => ?_)
      clear hK K
      refine wpAnyH_done (by kernel_rfl) ?_ _
      refine NoPanic.normal ?_
      have O3 : Off (fun b => b = C ∨ nv.ownBlock = some b) w w3 := ((Off.of_below B1).mono (fun _ h => h.elim)).trans (o3.mono (fun b h => .inr h)) (fun _ h => .inl h)
      have hs3 := o3.size
      exact k3 _ ⟨V4, L4, O3.trans o4 (fun b h => .inl (.inl h)), fun b hb => (at3 b hb).imp id (fun h => by omega)⟩
set_option maxRecDepth 100000 in
set_option maxHeartbeats 4000000 in
theorem regC10 {code : Code} {act : Act} {w : World} {Q : Exit → Act → World → Prop} {C M : Nat} {k0 t0 nv lv x0 x1 x2 x3 : Value} {n : Nat} {cs : List Value} {v : JV} (hcode : code = cl10) (hz : 44 < act.tmps.size) (h3 : act.eval (.tmp 3) = .pointer (some ⟨C, 0, none⟩)) (h1 : act.eval (.tmp 7) = .pointer (some ⟨M, 0, none⟩))
    (HV : J4 C k0 t0 nv lv w) (HM : J4 M x0 x1 x2 x3 w) (HL : OwV w (C + 1) lv n cs) (hCM : C ≠ M) (hlM : lv.ownBlock ≠ some M) (hn : n ≤ 1000000)
    (HC : ∀ W, Below w.heap.size w W → Calls Tryd.prog 32 #[.agg #[x0, x1, x2, x3]] W fun e w' => (∃ z0 z1 z2 z3, e = .returned (.agg #[z0, z1, z2, z3]) ∧ One4 z0 z1 z2 z3 ∧ JR w' (fun b => W.heap.size ≤ b ∧ b < w'.heap.size) v (.agg #[z0, z1, z2, z3])) ∧ Below W.heap.size W w')
    (kk : ∀ z0 z1 z2 z3 y25 lv' w' U, One4 z0 z1 z2 z3 → (∀ b, U b → w.heap.size ≤ b ∧ b < w'.heap.size ∧ lv'.ownBlock ≠ some b) → JR w' U v (.agg #[z0, z1, z2, z3]) → Pushed C k0 t0 nv lv lv' n (cs ++ [z0, z1, z2, z3]) w w' → Q .normal (Act.put (Act.put (Act.put (Act.put (Act.put (Act.put (Act.put (act) (some 36) (.pointer (some ⟨C, 3, none⟩))) (some 38) (.agg #[x0, x1, x2, x3])) (some 37) lv) (some 39) (.agg #[z0, z1, z2, z3])) (some 40) y25) (some 41) lv') (some 42) (.pointer (some ⟨C, 3, none⟩))) w') : code.wp Tryd.prog Q act w := by
  subst hcode
  have hlv : ∃ A c, lv = .slice A n c := by
    rcases HL.2 with ⟨e, h0⟩ | ⟨g, cap, cur, e, _⟩
    · exact ⟨none, 0, by rw [e, h0]⟩
    · exact ⟨_, cap, e⟩
  have hVl : lv.ownBlock ≠ some C := fun h => by have := World.ownsRow.lt HL C h; omega
  have hCl : C < w.heap.size := HV.lt
  conv => arg 2; whnf
  refine wp_region_noPanic ?_
  refine wp_region_held_drew (S := fun W => J4 M x0 x1 x2 x3 W) (by kernel_rfl) (HM.off (F := fun _ => False) ⟨rfl, rfl, rfl, Nat.le_refl _, fun _ _ _ => rfl⟩ (fun h => h)) (fun hHeld => ?_)
  refine wpAnyH_take (i := 0) (v := .pointer (some ⟨C, 3, none⟩)) rfl (by kernel_rfl) (by kernel_rfl) (by kernel_rfl) (fun _ _ _ h => h) (y_fa3 (by first | (with_reducible exact h3) | (with_reducible exact ev_same (by (try simp only [sz_put]); omega)) | (simp (disch := decide) only [ev_oth]; first | (with_reducible exact h3) | (with_reducible exact ev_same (by (try simp only [sz_put]); omega))))) hHeld ?_
  change wpAnyH _ _ _ _ _ _ _ (Act.put _ (some 36) _) _
  refine wpAnyH_take (i := 2) (v := .agg #[x0, x1, x2, x3]) rfl (by kernel_rfl) (by kernel_rfl) (by kernel_rfl) (fun _ _ _ h => h) (y_ld4 (by first | (with_reducible exact h1) | (with_reducible exact ev_same (by (try simp only [sz_put]); omega)) | (simp (disch := decide) only [ev_oth]; first | (with_reducible exact h1) | (with_reducible exact ev_same (by (try simp only [sz_put]); omega))))) hHeld ?_
  change wpAnyH _ _ _ _ _ _ _ (Act.put _ (some 38) _) _
  have g3 : Act.eval (Act.put (Act.put (act) (some 36) (.pointer (some ⟨C, 3, none⟩))) (some 38) (.agg #[x0, x1, x2, x3])) (.tmp 3) = .pointer (some ⟨C, 0, none⟩) := (by first | (with_reducible exact h3) | (with_reducible exact ev_same (by (try simp only [sz_put]); omega)) | (simp (disch := decide) only [ev_oth]; first | (with_reducible exact h3) | (with_reducible exact ev_same (by (try simp only [sz_put]); omega))))
  have gfa : Act.eval (Act.put (Act.put (act) (some 36) (.pointer (some ⟨C, 3, none⟩))) (some 38) (.agg #[x0, x1, x2, x3])) (.tmp 36) = .pointer (some ⟨C, 3, none⟩) := (by first | (with_reducible exact h1) | (with_reducible exact ev_same (by (try simp only [sz_put]); omega)) | (simp (disch := decide) only [ev_oth]; first | (with_reducible exact h1) | (with_reducible exact ev_same (by (try simp only [sz_put]); omega))))
  have gmv : Act.eval (Act.put (Act.put (act) (some 36) (.pointer (some ⟨C, 3, none⟩))) (some 38) (.agg #[x0, x1, x2, x3])) (.tmp 38) = (.agg #[x0, x1, x2, x3]) := (by first | (with_reducible exact h1) | (with_reducible exact ev_same (by (try simp only [sz_put]); omega)) | (simp (disch := decide) only [ev_oth]; first | (with_reducible exact h1) | (with_reducible exact ev_same (by (try simp only [sz_put]); omega))))
  have gsz : 44 < (Act.put (Act.put (act) (some 36) (.pointer (some ⟨C, 3, none⟩))) (some 38) (.agg #[x0, x1, x2, x3])).tmps.size := by simp only [sz_put]; omega
  obtain ⟨fa, hfa⟩ : ∃ c : Act, (Act.put (Act.put (act) (some 36) (.pointer (some ⟨C, 3, none⟩))) (some 38) (.agg #[x0, x1, x2, x3])) = c := ⟨_, rfl⟩
  rw [hfa] at g3 gfa gmv gsz kk ⊢
  clear hfa h1 h3 hz
  have D0 : Below w.heap.size w w.drew := below_drewN (Below.refl _ _) 1
  have hs0 : w.drew.heap.size = w.heap.size := rfl
  have V0 := HV.below D0
  have L0 : OwV w.drew (C + 1) lv n cs := own_off HL (Off.of_below D0) (fun _ _ h => h)
  generalize w.drew = w0 at *
  refine wpAnyH_ready (rs := [1, 3]) (by kernel_rfl) (by simp) ?_
  refine AllReadyH.cons (o := { dst := some 37, op := .load 26 (.tmp 36), type := _, pos := _, after := _, guard := none }) rfl (fun K hK => ?_) ?_
  · refine step_ldL rfl 36 rfl w0 (by first | (with_reducible exact gfa) | (with_reducible exact ev_same (by (try simp only [sz_put]); omega)) | (simp (disch := decide) only [ev_oth]; first | (with_reducible exact gfa) | (with_reducible exact ev_same (by (try simp only [sz_put]); omega)))) V0.c3 (by obtain ⟨A, c, rfl⟩ := hlv; rfl) (by obtain ⟨A, c, h⟩ := hlv; exact ⟨A, n, c, h⟩) ?_
    refine hK.out _ _ hHeld (fun hH1 => ?_)
    clear hK K
    change wpAnyH _ _ _ _ _ _ _ (Act.put _ (some 37) _) _
    refine wpAnyH_ready (rs := [3]) (by kernel_rfl) (by simp) ?_
    refine AllReadyH.cons (o := { dst := some 39, op := .call { callee := .value (.func 32), args := #[.tmp 38], argTypes := _ }, type := _, pos := _, after := _, guard := none }) rfl (fun K hK => ?_) AllReadyH.nil
    refine step_call1 rfl 32 (.tmp 38) _ rfl w0 (call_f32 _ _) (v := (.agg #[x0, x1, x2, x3])) (by first | (with_reducible exact gmv) | (with_reducible exact ev_same (by (try simp only [sz_put]); omega)) | (simp (disch := decide) only [ev_oth]; first | (with_reducible exact gmv) | (with_reducible exact ev_same (by (try simp only [sz_put]); omega)))) (HC w0 D0) ?_
    rintro e w1 ⟨⟨z0, z1, z2, z3, rfl, hz1, hzj⟩, b1⟩
    refine ⟨_, rfl, ?_⟩
    refine hK.out _ _ (hH1.below b1) (fun hH2 => ?_)
    clear hK K
    change wpAnyH _ _ _ _ _ _ _ (Act.put _ (some 39) _) _
    have V1 := V0.below b1
    have L1 : OwV w1 (C + 1) lv n cs := own_off L0 (Off.of_below b1) (fun _ _ h => h)
    have hs1 := b1.size
    have B1 : Below w.heap.size w w1 := D0.trans (b1.mono (by omega))
    refine wpAnyH_ready (rs := [4]) (by kernel_rfl) (by simp) ?_
    refine AllReadyH.cons (o := { dst := some 40, op := .buildSlice 26 1 #[(0, .tmp 39)], type := _, pos := _, after := _, guard := none }) rfl (fun K hK => ?_) AllReadyH.nil
    refine step_bsV rfl 39 rfl w1 hz1 (by first | (with_reducible exact gmv) | (with_reducible exact ev_same (by (try simp only [sz_put]); omega)) | (simp (disch := decide) only [ev_oth]; first | (with_reducible exact gmv) | (with_reducible exact ev_same (by (try simp only [sz_put]); omega)))) ?_
    have UB : Below w1.heap.size w1 (w1.alloc (.cells #[z0, z1, z2, z3] 28 (0, 0))) := (Below.refl _ _).alloc (Nat.le_refl _) _
    refine hK.out _ _ (hH2.below UB) (fun hH3 => ?_)
    clear hK K
    change wpAnyH _ _ _ _ _ _ _ (Act.put _ (some 40) _) _
    have Gld : Act.eval (Act.put (Act.put (Act.put (fa) (some 37) lv) (some 39) (.agg #[z0, z1, z2, z3])) (some 40) (.slice (some ⟨w1.heap.size, 0, none⟩) 1 1)) (.tmp 37) = lv := (by first | (with_reducible exact gfa) | (with_reducible exact ev_same (by (try simp only [sz_put]); omega)) | (simp (disch := decide) only [ev_oth]; first | (with_reducible exact gfa) | (with_reducible exact ev_same (by (try simp only [sz_put]); omega))))
    have Gbs : Act.eval (Act.put (Act.put (Act.put (fa) (some 37) lv) (some 39) (.agg #[z0, z1, z2, z3])) (some 40) (.slice (some ⟨w1.heap.size, 0, none⟩) 1 1)) (.tmp 40) = .slice (some ⟨w1.heap.size, 0, none⟩) 1 1 := (by first | (with_reducible exact gfa) | (with_reducible exact ev_same (by (try simp only [sz_put]); omega)) | (simp (disch := decide) only [ev_oth]; first | (with_reducible exact gfa) | (with_reducible exact ev_same (by (try simp only [sz_put]); omega))))
    have G3 : Act.eval (Act.put (Act.put (Act.put (fa) (some 37) lv) (some 39) (.agg #[z0, z1, z2, z3])) (some 40) (.slice (some ⟨w1.heap.size, 0, none⟩) 1 1)) (.tmp 3) = .pointer (some ⟨C, 0, none⟩) := (by first | (with_reducible exact g3) | (with_reducible exact ev_same (by (try simp only [sz_put]); omega)) | (simp (disch := decide) only [ev_oth]; first | (with_reducible exact g3) | (with_reducible exact ev_same (by (try simp only [sz_put]); omega))))
    have Gsz : 44 < (Act.put (Act.put (Act.put (fa) (some 37) lv) (some 39) (.agg #[z0, z1, z2, z3])) (some 40) (.slice (some ⟨w1.heap.size, 0, none⟩) 1 1)).tmps.size := by simp only [sz_put]; omega
    have k2 := kk z0 z1 z2 z3 (.slice (some ⟨w1.heap.size, 0, none⟩) 1 1)
    obtain ⟨fb, hfb⟩ : ∃ c : Act, (Act.put (Act.put (Act.put (fa) (some 37) lv) (some 39) (.agg #[z0, z1, z2, z3])) (some 40) (.slice (some ⟨w1.heap.size, 0, none⟩) 1 1)) = c := ⟨_, rfl⟩
    rw [hfb] at Gld Gbs G3 Gsz k2 ⊢
    clear hfb
    refine wpAnyH_ready (rs := [5]) (by kernel_rfl) (by simp) ?_
    refine AllReadyH.cons (o := { dst := some 41, op := .call { callee := .builtin .append, args := #[.tmp 37, .tmp 40], argTypes := #[26, 26] }, type := _, pos := _, after := _, guard := none }) rfl (fun K hK => ?_) AllReadyH.nil
    refine step_appV7 rfl (.tmp 37) (.tmp 40) rfl w1 (C + 1) lv n cs z0 z1 z2 z3 hz1 Gld L1 Gbs (by omega) (by omega) ?_
    intro g cap w3 L3 o3 at3
    refine hK.out _ _ ((HM.below B1).off o3 (fun h => hlM h)) (fun hHt => ?_)
    clear hK K
    change wpAnyH _ _ _ _ _ _ _ (Act.put _ (some 41) _) _
    have V3 := V1.off o3 (fun h => hVl h)
    refine wpAnyH_take (i := 6) (v := .pointer (some ⟨C, 3, none⟩)) rfl (by kernel_rfl) (by kernel_rfl) (by kernel_rfl) (fun _ _ _ h => h) (y_fa3 (by first | (with_reducible exact G3) | (with_reducible exact ev_same (by (try simp only [sz_put]); omega)) | (simp (disch := decide) only [ev_oth]; first | (with_reducible exact G3) | (with_reducible exact ev_same (by (try simp only [sz_put]); omega))))) hHt ?_
    change wpAnyH _ _ _ _ _ _ _ (Act.put _ (some 42) _) _
    have G27 : Act.eval (Act.put (Act.put fb (some 41) (.slice (some ⟨g, 0, none⟩) (n + 1) cap)) (some 42) (.pointer (some ⟨C, 3, none⟩))) (.tmp 42) = .pointer (some ⟨C, 3, none⟩) := (by first | (with_reducible exact G3) | (with_reducible exact ev_same (by (try simp only [sz_put]); omega)) | (simp (disch := decide) only [ev_oth]; first | (with_reducible exact G3) | (with_reducible exact ev_same (by (try simp only [sz_put]); omega))))
    have G26 : Act.eval (Act.put (Act.put fb (some 41) (.slice (some ⟨g, 0, none⟩) (n + 1) cap)) (some 42) (.pointer (some ⟨C, 3, none⟩))) (.tmp 41) = .slice (some ⟨g, 0, none⟩) (n + 1) cap := (by first | (with_reducible exact G3) | (with_reducible exact ev_same (by (try simp only [sz_put]); omega)) | (simp (disch := decide) only [ev_oth]; first | (with_reducible exact G3) | (with_reducible exact ev_same (by (try simp only [sz_put]); omega))))
    have k3 := k2 (.slice (some ⟨g, 0, none⟩) (n + 1) cap)
    obtain ⟨fc, hfc⟩ : ∃ c : Act, (Act.put (Act.put fb (some 41) (.slice (some ⟨g, 0, none⟩) (n + 1) cap)) (some 42) (.pointer (some ⟨C, 3, none⟩))) = c := ⟨_, rfl⟩
    rw [hfc] at G27 G26 k3 ⊢
    clear hfc
    refine wpAnyH_ready (rs := [7]) (by kernel_rfl) (by simp) ?_
    refine AllReadyH.cons (o := { dst := none, op := .store 26 (.tmp 42) (.tmp 41), type := _, pos := _, after := _, guard := none }) rfl (fun K hK => ?_) AllReadyH.nil
    refine step_stL rfl 42 41 rfl rfl w3 (b := C) (k := 3) G27 G26 V3.c3 (V3.free 3) ⟨_, _, _, rfl⟩ ?_
    have o4 := off_set7 w3 C 3 (.slice (some ⟨g, 0, none⟩) (n + 1) cap)
    have hgC : g ≠ C := fun e => by
      have := World.ownsRow.lt L3 g rfl
      omega
    have L4 : OwV (w3.setCell ⟨C, 3, none⟩ (.slice (some ⟨g, 0, none⟩) (n + 1) cap)) (C + 1) (.slice (some ⟨g, 0, none⟩) (n + 1) cap) (n + 1) (cs ++ [z0, z1, z2, z3]) := own_off L3 o4 (fun b hb h => by have : g = b := Option.some.inj hb; omega)
    have V4 : J4 C k0 t0 nv (.slice (some ⟨g, 0, none⟩) (n + 1) cap) (w3.setCell ⟨C, 3, none⟩ (.slice (some ⟨g, 0, none⟩) (n + 1) cap)) := V3.set 3 (.slice (some ⟨g, 0, none⟩) (n + 1) cap)
    refine hK.out _ _ (hHt.off o4 (fun h => hCM h.symm)) (fun _ => ?_)
    clear hK K
    refine wpAnyH_done (by kernel_rfl) ?_ _
    refine NoPanic.normal ?_
    have O3 : Off (fun b => b = C ∨ lv.ownBlock = some b) w w3 := ((Off.of_below B1).mono (fun _ h => h.elim)).trans (o3.mono (fun b h => .inr h)) (fun _ h => .inl h)
    have hs3 := o3.size
    have hO : ∀ b, lv.ownBlock = some b → b < w.heap.size := fun b hb => (World.ownsRow.lt HL b hb).2
    have hat := fun b hb => at3 b hb
    refine k3 _ (fun b => w0.heap.size ≤ b ∧ b < w1.heap.size) hz1 (fun b hb => ⟨by omega, by have := o4.size; omega, fun e => ?_⟩) ?_ ⟨V4, L4, O3.trans o4 (fun b h => .inl (.inl h)), fun b hb => (at3 b hb).imp id (fun h => by omega)⟩
    · rcases at3 b e with h | h
      · have := hO b h; omega
      · omega
    · exact JR.off o4 (fun b hb e => by omega) v _ (JR.off o3 (fun b hb e => by have := hO b e; omega) v _ hzj)
  · refine AllReadyH.cons (o := { dst := some 39, op := .call { callee := .value (.func 32), args := #[.tmp 38], argTypes := _ }, type := _, pos := _, after := _, guard := none }) rfl (fun K hK => ?_) AllReadyH.nil
    refine step_call1 rfl 32 (.tmp 38) _ rfl w0 (call_f32 _ _) (v := (.agg #[x0, x1, x2, x3])) (by first | (with_reducible exact gmv) | (with_reducible exact ev_same (by (try simp only [sz_put]); omega)) | (simp (disch := decide) only [ev_oth]; first | (with_reducible exact gmv) | (with_reducible exact ev_same (by (try simp only [sz_put]); omega)))) (HC w0 D0) ?_
    rintro e w1 ⟨⟨z0, z1, z2, z3, rfl, hz1, hzj⟩, b1⟩
    refine ⟨_, rfl, ?_⟩
    refine hK.out _ _ (hHeld.below b1) (fun hH1 => ?_)
    clear hK K
    change wpAnyH _ _ _ _ _ _ _ (Act.put _ (some 39) _) _
    have V1 := V0.below b1
    have L1 : OwV w1 (C + 1) lv n cs := own_off L0 (Off.of_below b1) (fun _ _ h => h)
    have hs1 := b1.size
    have B1 : Below w.heap.size w w1 := D0.trans (b1.mono (by omega))
    refine wpAnyH_ready (rs := [1, 4]) (by kernel_rfl) (by simp) ?_
    refine AllReadyH.cons (o := { dst := some 37, op := .load 26 (.tmp 36), type := _, pos := _, after := _, guard := none }) rfl (fun K hK => ?_) ?_
    · refine step_ldL rfl 36 rfl w1 (by first | (with_reducible exact gfa) | (with_reducible exact ev_same (by (try simp only [sz_put]); omega)) | (simp (disch := decide) only [ev_oth]; first | (with_reducible exact gfa) | (with_reducible exact ev_same (by (try simp only [sz_put]); omega)))) V1.c3 (by obtain ⟨A, c, rfl⟩ := hlv; rfl) (by obtain ⟨A, c, h⟩ := hlv; exact ⟨A, n, c, h⟩) ?_
      refine hK.out _ _ hH1 (fun hH2 => ?_)
      clear hK K
      change wpAnyH _ _ _ _ _ _ _ (Act.put _ (some 37) _) _
      rw [Act.put_comm (x := some 39) (y := some 37) _ _ _ (by simp)]
      refine wpAnyH_ready (rs := [4]) (by kernel_rfl) (by simp) ?_
      refine AllReadyH.cons (o := { dst := some 40, op := .buildSlice 26 1 #[(0, .tmp 39)], type := _, pos := _, after := _, guard := none }) rfl (fun K hK => ?_) AllReadyH.nil
      refine step_bsV rfl 39 rfl w1 hz1 (by first | (with_reducible exact gmv) | (with_reducible exact ev_same (by (try simp only [sz_put]); omega)) | (simp (disch := decide) only [ev_oth]; first | (with_reducible exact gmv) | (with_reducible exact ev_same (by (try simp only [sz_put]); omega)))) ?_
      have UB : Below w1.heap.size w1 (w1.alloc (.cells #[z0, z1, z2, z3] 28 (0, 0))) := (Below.refl _ _).alloc (Nat.le_refl _) _
      refine hK.out _ _ (hH2.below UB) (fun hH3 => ?_)
      clear hK K
      change wpAnyH _ _ _ _ _ _ _ (Act.put _ (some 40) _) _
      have Gld : Act.eval (Act.put (Act.put (Act.put (fa) (some 37) lv) (some 39) (.agg #[z0, z1, z2, z3])) (some 40) (.slice (some ⟨w1.heap.size, 0, none⟩) 1 1)) (.tmp 37) = lv := (by first | (with_reducible exact gfa) | (with_reducible exact ev_same (by (try simp only [sz_put]); omega)) | (simp (disch := decide) only [ev_oth]; first | (with_reducible exact gfa) | (with_reducible exact ev_same (by (try simp only [sz_put]); omega))))
      have Gbs : Act.eval (Act.put (Act.put (Act.put (fa) (some 37) lv) (some 39) (.agg #[z0, z1, z2, z3])) (some 40) (.slice (some ⟨w1.heap.size, 0, none⟩) 1 1)) (.tmp 40) = .slice (some ⟨w1.heap.size, 0, none⟩) 1 1 := (by first | (with_reducible exact gfa) | (with_reducible exact ev_same (by (try simp only [sz_put]); omega)) | (simp (disch := decide) only [ev_oth]; first | (with_reducible exact gfa) | (with_reducible exact ev_same (by (try simp only [sz_put]); omega))))
      have G3 : Act.eval (Act.put (Act.put (Act.put (fa) (some 37) lv) (some 39) (.agg #[z0, z1, z2, z3])) (some 40) (.slice (some ⟨w1.heap.size, 0, none⟩) 1 1)) (.tmp 3) = .pointer (some ⟨C, 0, none⟩) := (by first | (with_reducible exact g3) | (with_reducible exact ev_same (by (try simp only [sz_put]); omega)) | (simp (disch := decide) only [ev_oth]; first | (with_reducible exact g3) | (with_reducible exact ev_same (by (try simp only [sz_put]); omega))))
      have Gsz : 44 < (Act.put (Act.put (Act.put (fa) (some 37) lv) (some 39) (.agg #[z0, z1, z2, z3])) (some 40) (.slice (some ⟨w1.heap.size, 0, none⟩) 1 1)).tmps.size := by simp only [sz_put]; omega
      have k2 := kk z0 z1 z2 z3 (.slice (some ⟨w1.heap.size, 0, none⟩) 1 1)
      obtain ⟨fb, hfb⟩ : ∃ c : Act, (Act.put (Act.put (Act.put (fa) (some 37) lv) (some 39) (.agg #[z0, z1, z2, z3])) (some 40) (.slice (some ⟨w1.heap.size, 0, none⟩) 1 1)) = c := ⟨_, rfl⟩
      rw [hfb] at Gld Gbs G3 Gsz k2 ⊢
      clear hfb
      refine wpAnyH_ready (rs := [5]) (by kernel_rfl) (by simp) ?_
      refine AllReadyH.cons (o := { dst := some 41, op := .call { callee := .builtin .append, args := #[.tmp 37, .tmp 40], argTypes := #[26, 26] }, type := _, pos := _, after := _, guard := none }) rfl (fun K hK => ?_) AllReadyH.nil
      refine step_appV7 rfl (.tmp 37) (.tmp 40) rfl w1 (C + 1) lv n cs z0 z1 z2 z3 hz1 Gld L1 Gbs (by omega) (by omega) ?_
      intro g cap w3 L3 o3 at3
      refine hK.out _ _ ((HM.below B1).off o3 (fun h => hlM h)) (fun hHt => ?_)
      clear hK K
      change wpAnyH _ _ _ _ _ _ _ (Act.put _ (some 41) _) _
      have V3 := V1.off o3 (fun h => hVl h)
      refine wpAnyH_take (i := 6) (v := .pointer (some ⟨C, 3, none⟩)) rfl (by kernel_rfl) (by kernel_rfl) (by kernel_rfl) (fun _ _ _ h => h) (y_fa3 (by first | (with_reducible exact G3) | (with_reducible exact ev_same (by (try simp only [sz_put]); omega)) | (simp (disch := decide) only [ev_oth]; first | (with_reducible exact G3) | (with_reducible exact ev_same (by (try simp only [sz_put]); omega))))) hHt ?_
      change wpAnyH _ _ _ _ _ _ _ (Act.put _ (some 42) _) _
      have G27 : Act.eval (Act.put (Act.put fb (some 41) (.slice (some ⟨g, 0, none⟩) (n + 1) cap)) (some 42) (.pointer (some ⟨C, 3, none⟩))) (.tmp 42) = .pointer (some ⟨C, 3, none⟩) := (by first | (with_reducible exact G3) | (with_reducible exact ev_same (by (try simp only [sz_put]); omega)) | (simp (disch := decide) only [ev_oth]; first | (with_reducible exact G3) | (with_reducible exact ev_same (by (try simp only [sz_put]); omega))))
      have G26 : Act.eval (Act.put (Act.put fb (some 41) (.slice (some ⟨g, 0, none⟩) (n + 1) cap)) (some 42) (.pointer (some ⟨C, 3, none⟩))) (.tmp 41) = .slice (some ⟨g, 0, none⟩) (n + 1) cap := (by first | (with_reducible exact G3) | (with_reducible exact ev_same (by (try simp only [sz_put]); omega)) | (simp (disch := decide) only [ev_oth]; first | (with_reducible exact G3) | (with_reducible exact ev_same (by (try simp only [sz_put]); omega))))
      have k3 := k2 (.slice (some ⟨g, 0, none⟩) (n + 1) cap)
      obtain ⟨fc, hfc⟩ : ∃ c : Act, (Act.put (Act.put fb (some 41) (.slice (some ⟨g, 0, none⟩) (n + 1) cap)) (some 42) (.pointer (some ⟨C, 3, none⟩))) = c := ⟨_, rfl⟩
      rw [hfc] at G27 G26 k3 ⊢
      clear hfc
      refine wpAnyH_ready (rs := [7]) (by kernel_rfl) (by simp) ?_
      refine AllReadyH.cons (o := { dst := none, op := .store 26 (.tmp 42) (.tmp 41), type := _, pos := _, after := _, guard := none }) rfl (fun K hK => ?_) AllReadyH.nil
      refine step_stL rfl 42 41 rfl rfl w3 (b := C) (k := 3) G27 G26 V3.c3 (V3.free 3) ⟨_, _, _, rfl⟩ ?_
      have o4 := off_set7 w3 C 3 (.slice (some ⟨g, 0, none⟩) (n + 1) cap)
      have hgC : g ≠ C := fun e => by
        have := World.ownsRow.lt L3 g rfl
        omega
      have L4 : OwV (w3.setCell ⟨C, 3, none⟩ (.slice (some ⟨g, 0, none⟩) (n + 1) cap)) (C + 1) (.slice (some ⟨g, 0, none⟩) (n + 1) cap) (n + 1) (cs ++ [z0, z1, z2, z3]) := own_off L3 o4 (fun b hb h => by have : g = b := Option.some.inj hb; omega)
      have V4 : J4 C k0 t0 nv (.slice (some ⟨g, 0, none⟩) (n + 1) cap) (w3.setCell ⟨C, 3, none⟩ (.slice (some ⟨g, 0, none⟩) (n + 1) cap)) := V3.set 3 (.slice (some ⟨g, 0, none⟩) (n + 1) cap)
      refine hK.out _ _ (hHt.off o4 (fun h => hCM h.symm)) (fun _ => ?_)
      clear hK K
      refine wpAnyH_done (by kernel_rfl) ?_ _
      refine NoPanic.normal ?_
      have O3 : Off (fun b => b = C ∨ lv.ownBlock = some b) w w3 := ((Off.of_below B1).mono (fun _ h => h.elim)).trans (o3.mono (fun b h => .inr h)) (fun _ h => .inl h)
      have hs3 := o3.size
      have hO : ∀ b, lv.ownBlock = some b → b < w.heap.size := fun b hb => (World.ownsRow.lt HL b hb).2
      have hat := fun b hb => at3 b hb
      refine k3 _ (fun b => w0.heap.size ≤ b ∧ b < w1.heap.size) hz1 (fun b hb => ⟨by omega, by have := o4.size; omega, fun e => ?_⟩) ?_ ⟨V4, L4, O3.trans o4 (fun b h => .inl (.inl h)), fun b hb => (at3 b hb).imp id (fun h => by omega)⟩
      · rcases at3 b e with h | h
        · have := hO b h; omega
        · omega
      · exact JR.off o4 (fun b hb e => by omega) v _ (JR.off o3 (fun b hb e => by have := hO b e; omega) v _ hzj)
    · refine AllReadyH.cons (o := { dst := some 40, op := .buildSlice 26 1 #[(0, .tmp 39)], type := _, pos := _, after := _, guard := none }) rfl (fun K hK => ?_) AllReadyH.nil
      refine step_bsV rfl 39 rfl w1 hz1 (by first | (with_reducible exact gmv) | (with_reducible exact ev_same (by (try simp only [sz_put]); omega)) | (simp (disch := decide) only [ev_oth]; first | (with_reducible exact gmv) | (with_reducible exact ev_same (by (try simp only [sz_put]); omega)))) ?_
      have UB : Below w1.heap.size w1 (w1.alloc (.cells #[z0, z1, z2, z3] 28 (0, 0))) := (Below.refl _ _).alloc (Nat.le_refl _) _
      refine hK.out _ _ (hH1.below UB) (fun hH2 => ?_)
      clear hK K
      change wpAnyH _ _ _ _ _ _ _ (Act.put _ (some 40) _) _
      have VB := V1.below UB
      refine wpAnyH_ready (rs := [1]) (by kernel_rfl) (by simp) ?_
      refine AllReadyH.cons (o := { dst := some 37, op := .load 26 (.tmp 36), type := _, pos := _, after := _, guard := none }) rfl (fun K hK => ?_) AllReadyH.nil
      refine step_ldL rfl 36 rfl (w1.alloc (.cells #[z0, z1, z2, z3] 28 (0, 0))) (by first | (with_reducible exact gfa) | (with_reducible exact ev_same (by (try simp only [sz_put]); omega)) | (simp (disch := decide) only [ev_oth]; first | (with_reducible exact gfa) | (with_reducible exact ev_same (by (try simp only [sz_put]); omega)))) VB.c3 (by obtain ⟨A, c, rfl⟩ := hlv; rfl) (by obtain ⟨A, c, h⟩ := hlv; exact ⟨A, n, c, h⟩) ?_
      refine hK.out _ _ hH2 (fun hH3 => ?_)
      clear hK K
      change wpAnyH _ _ _ _ _ _ _ (Act.put _ (some 37) _) _
      rw [Act.put_comm (x := some 40) (y := some 37) _ _ _ (by simp), Act.put_comm (x := some 39) (y := some 37) _ _ _ (by simp)]
      have Gld : Act.eval (Act.put (Act.put (Act.put (fa) (some 37) lv) (some 39) (.agg #[z0, z1, z2, z3])) (some 40) (.slice (some ⟨w1.heap.size, 0, none⟩) 1 1)) (.tmp 37) = lv := (by first | (with_reducible exact gfa) | (with_reducible exact ev_same (by (try simp only [sz_put]); omega)) | (simp (disch := decide) only [ev_oth]; first | (with_reducible exact gfa) | (with_reducible exact ev_same (by (try simp only [sz_put]); omega))))
      have Gbs : Act.eval (Act.put (Act.put (Act.put (fa) (some 37) lv) (some 39) (.agg #[z0, z1, z2, z3])) (some 40) (.slice (some ⟨w1.heap.size, 0, none⟩) 1 1)) (.tmp 40) = .slice (some ⟨w1.heap.size, 0, none⟩) 1 1 := (by first | (with_reducible exact gfa) | (with_reducible exact ev_same (by (try simp only [sz_put]); omega)) | (simp (disch := decide) only [ev_oth]; first | (with_reducible exact gfa) | (with_reducible exact ev_same (by (try simp only [sz_put]); omega))))
      have G3 : Act.eval (Act.put (Act.put (Act.put (fa) (some 37) lv) (some 39) (.agg #[z0, z1, z2, z3])) (some 40) (.slice (some ⟨w1.heap.size, 0, none⟩) 1 1)) (.tmp 3) = .pointer (some ⟨C, 0, none⟩) := (by first | (with_reducible exact g3) | (with_reducible exact ev_same (by (try simp only [sz_put]); omega)) | (simp (disch := decide) only [ev_oth]; first | (with_reducible exact g3) | (with_reducible exact ev_same (by (try simp only [sz_put]); omega))))
      have Gsz : 44 < (Act.put (Act.put (Act.put (fa) (some 37) lv) (some 39) (.agg #[z0, z1, z2, z3])) (some 40) (.slice (some ⟨w1.heap.size, 0, none⟩) 1 1)).tmps.size := by simp only [sz_put]; omega
      have k2 := kk z0 z1 z2 z3 (.slice (some ⟨w1.heap.size, 0, none⟩) 1 1)
      obtain ⟨fb, hfb⟩ : ∃ c : Act, (Act.put (Act.put (Act.put (fa) (some 37) lv) (some 39) (.agg #[z0, z1, z2, z3])) (some 40) (.slice (some ⟨w1.heap.size, 0, none⟩) 1 1)) = c := ⟨_, rfl⟩
      rw [hfb] at Gld Gbs G3 Gsz k2 ⊢
      clear hfb
      refine wpAnyH_ready (rs := [5]) (by kernel_rfl) (by simp) ?_
      refine AllReadyH.cons (o := { dst := some 41, op := .call { callee := .builtin .append, args := #[.tmp 37, .tmp 40], argTypes := #[26, 26] }, type := _, pos := _, after := _, guard := none }) rfl (fun K hK => ?_) AllReadyH.nil
      refine step_appV7 rfl (.tmp 37) (.tmp 40) rfl w1 (C + 1) lv n cs z0 z1 z2 z3 hz1 Gld L1 Gbs (by omega) (by omega) ?_
      intro g cap w3 L3 o3 at3
      refine hK.out _ _ ((HM.below B1).off o3 (fun h => hlM h)) (fun hHt => ?_)
      clear hK K
      change wpAnyH _ _ _ _ _ _ _ (Act.put _ (some 41) _) _
      have V3 := V1.off o3 (fun h => hVl h)
      refine wpAnyH_take (i := 6) (v := .pointer (some ⟨C, 3, none⟩)) rfl (by kernel_rfl) (by kernel_rfl) (by kernel_rfl) (fun _ _ _ h => h) (y_fa3 (by first | (with_reducible exact G3) | (with_reducible exact ev_same (by (try simp only [sz_put]); omega)) | (simp (disch := decide) only [ev_oth]; first | (with_reducible exact G3) | (with_reducible exact ev_same (by (try simp only [sz_put]); omega))))) hHt ?_
      change wpAnyH _ _ _ _ _ _ _ (Act.put _ (some 42) _) _
      have G27 : Act.eval (Act.put (Act.put fb (some 41) (.slice (some ⟨g, 0, none⟩) (n + 1) cap)) (some 42) (.pointer (some ⟨C, 3, none⟩))) (.tmp 42) = .pointer (some ⟨C, 3, none⟩) := (by first | (with_reducible exact G3) | (with_reducible exact ev_same (by (try simp only [sz_put]); omega)) | (simp (disch := decide) only [ev_oth]; first | (with_reducible exact G3) | (with_reducible exact ev_same (by (try simp only [sz_put]); omega))))
      have G26 : Act.eval (Act.put (Act.put fb (some 41) (.slice (some ⟨g, 0, none⟩) (n + 1) cap)) (some 42) (.pointer (some ⟨C, 3, none⟩))) (.tmp 41) = .slice (some ⟨g, 0, none⟩) (n + 1) cap := (by first | (with_reducible exact G3) | (with_reducible exact ev_same (by (try simp only [sz_put]); omega)) | (simp (disch := decide) only [ev_oth]; first | (with_reducible exact G3) | (with_reducible exact ev_same (by (try simp only [sz_put]); omega))))
      have k3 := k2 (.slice (some ⟨g, 0, none⟩) (n + 1) cap)
      obtain ⟨fc, hfc⟩ : ∃ c : Act, (Act.put (Act.put fb (some 41) (.slice (some ⟨g, 0, none⟩) (n + 1) cap)) (some 42) (.pointer (some ⟨C, 3, none⟩))) = c := ⟨_, rfl⟩
      rw [hfc] at G27 G26 k3 ⊢
      clear hfc
      refine wpAnyH_ready (rs := [7]) (by kernel_rfl) (by simp) ?_
      refine AllReadyH.cons (o := { dst := none, op := .store 26 (.tmp 42) (.tmp 41), type := _, pos := _, after := _, guard := none }) rfl (fun K hK => ?_) AllReadyH.nil
      refine step_stL rfl 42 41 rfl rfl w3 (b := C) (k := 3) G27 G26 V3.c3 (V3.free 3) ⟨_, _, _, rfl⟩ ?_
      have o4 := off_set7 w3 C 3 (.slice (some ⟨g, 0, none⟩) (n + 1) cap)
      have hgC : g ≠ C := fun e => by
        have := World.ownsRow.lt L3 g rfl
        omega
      have L4 : OwV (w3.setCell ⟨C, 3, none⟩ (.slice (some ⟨g, 0, none⟩) (n + 1) cap)) (C + 1) (.slice (some ⟨g, 0, none⟩) (n + 1) cap) (n + 1) (cs ++ [z0, z1, z2, z3]) := own_off L3 o4 (fun b hb h => by have : g = b := Option.some.inj hb; omega)
      have V4 : J4 C k0 t0 nv (.slice (some ⟨g, 0, none⟩) (n + 1) cap) (w3.setCell ⟨C, 3, none⟩ (.slice (some ⟨g, 0, none⟩) (n + 1) cap)) := V3.set 3 (.slice (some ⟨g, 0, none⟩) (n + 1) cap)
      refine hK.out _ _ (hHt.off o4 (fun h => hCM h.symm)) (fun _ => ?_)
      clear hK K
      refine wpAnyH_done (by kernel_rfl) ?_ _
      refine NoPanic.normal ?_
      have O3 : Off (fun b => b = C ∨ lv.ownBlock = some b) w w3 := ((Off.of_below B1).mono (fun _ h => h.elim)).trans (o3.mono (fun b h => .inr h)) (fun _ h => .inl h)
      have hs3 := o3.size
      have hO : ∀ b, lv.ownBlock = some b → b < w.heap.size := fun b hb => (World.ownsRow.lt HL b hb).2
      have hat := fun b hb => at3 b hb
      refine k3 _ (fun b => w0.heap.size ≤ b ∧ b < w1.heap.size) hz1 (fun b hb => ⟨by omega, by have := o4.size; omega, fun e => ?_⟩) ?_ ⟨V4, L4, O3.trans o4 (fun b h => .inl (.inl h)), fun b hb => (at3 b hb).imp id (fun h => by omega)⟩
      · rcases at3 b e with h | h
        · have := hO b h; omega
        · omega
      · exact JR.off o4 (fun b hb e => by omega) v _ (JR.off o3 (fun b hb e => by have := hO b e; omega) v _ hzj)
end Go.Proofs.YtchgelfomnbpaaaDoor
