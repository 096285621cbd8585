/-
  Of the proofs of layer 8 (elements of XML): the parts XBl XAx YA YC YD. No conditions.
-/
import Derived.Test.YtklcjimmbkpbdaaGreatDoorZ16
import Derived.Test.YtklcjimmbkpbdaaGreatDoorZ01
import Derived.StillTailTactics
import Derived.Deep.QuietTactic
import Derived.BigQuiet
import Derived.Test.YtklcjimmbkpbdaaGreatDoorZ07
import Derived.Test.YtklcjimmbkpbdaaGreatDoorZ02
namespace Go.Proofs.YtklcjimmbkpbdaaGreatDoor
open Go.RowKit
open Go.Lib
abbrev TCo : TypeId := 139
abbrev CoB (kv pv bv : Value) : Obj := .cells #[kv, pv, bv] TCo (0, 0)
theorem shape_co {C : Nat} {kv pv bv : Value} {w : World} (h : Blk C (CoB kv pv bv) w) : w.shape? C = some (TCo, 3) := by
 have h' : w.heap[C]? = some (.cells #[kv, pv, bv] TCo (0, 0)) := h
 simp [World.shape?, h']
theorem coBuilder_info : ∃ j, Tryz.prog.info? 69 = some j ∧ j.size = 2 := by
 have h : (Tryz.prog.info? 69).map (·.size) = some 2 := by kernel_rfl
 obtain ⟨j, hj, hs⟩ := Option.map_eq_some_iff.1 h
 exact ⟨j, hj, hs⟩
theorem coBuilder_lies : liesAt Tryz.prog Tryz.prog.depth TCo (3 / Tryz.prog.cellsOf TCo) 1 69 1 = true := by kernel_rfl
set_option maxRecDepth 100000 in
theorem copyC_used {C : Nat} {kv bv : Value} {w : World} (h : Blk C (CoB kv (.pointer (some ⟨C, 1, none⟩)) bv) w) :
    Calls Tryz.prog 93 #[.pointer (some ⟨C, 1, none⟩)] w fun e w' => e = .returned (.tuple #[]) ∧ w' = w := by
 obtain ⟨j, hj, _⟩ := coBuilder_info
 have c1 : w.cell? ⟨C, 1, none⟩ = some (.pointer (some ⟨C, 1, none⟩)) := h.cell 1
 go_enter Tryz.func93, Tryz.ntmps93
 go_wp2
 rw [Lib.run_neq_ptr_same w _ Tryz.underlying67 hj]
 go_wp2
 go_end0
 exact ⟨rfl, rfl⟩
set_option maxRecDepth 100000 in
theorem copyC_fresh {C : Nat} {kv bv : Value} {w : World} (h : Blk C (CoB kv (.pointer none) bv) w) :
    Calls Tryz.prog 93 #[.pointer (some ⟨C, 1, none⟩)] w fun e w' => e = .returned (.tuple #[]) ∧ w' = w.setCell ⟨C, 1, none⟩ (.pointer (some ⟨C, 1, none⟩)) := by
 obtain ⟨j, hj, hjs⟩ := coBuilder_info
 have c1 : w.cell? ⟨C, 1, none⟩ = some (.pointer none) := h.cell 1
 have f1 := h.free 1
 have hsh := shape_co h
 go_enter Tryz.func93, Tryz.ntmps93
 go_wp2
 rw [Lib.run_to_unsafe w ⟨C, 1, none⟩ Tryz.underlying67 Tryz.underlying147 hj (by rw [hjs]; decide) hsh (show 1 < 3 by decide)]
 simp only [Result.andThen]
 rw [Oper.upon_value]
 go_wp2
 rw [run_callFunc_extern Tryz.func112 (by kernel_rfl) (by kernel_rfl) (by kernel_rfl) (e := Extern.AbiNoEscape.same) (by kernel_rfl)]
 rw [Lib.run_noEscape]
 simp only [Result.andThen]
 rw [Oper.upon_value]
 go_wp2
 rw [Lib.run_from_unsafe w ⟨C, 1, none⟩ Tryz.underlying147 Tryz.underlying67 hj hsh coBuilder_lies]
 simp only [Result.andThen]
 rw [Oper.upon_value]
 go_wp2
 go_end0
 exact ⟨rfl, rfl⟩
abbrev TBy : TypeId := 5
theorem Tryz.info8Y : (Tryz.prog.info? TBy).map (fun i => (i.zero, i.size, i.bytes)) = some (some (.int .u8 0), 1, 1) := by kernel_rfl
structure CSt (C : Nat) (T : Nat → Prop) (kv pv bv : Value) (ks : List XV) (cs : List Value) (t : Bt) (w : World) : Prop where
 blk : Blk C (CoB kv pv bv) w
 addr : pv = .pointer none ∨ pv = .pointer (some ⟨C, 1, none⟩)
 kids : w.ownsRow C TNo 5 kv ks.length cs
 read : XRs w T ks cs
 buf : w.ownsRow C TBy 1 bv t.length (Lib.byteCells t)
 apart : ∀ b, T b → C < b ∧ b < w.heap.size ∧ kv.ownBlock ≠ some b ∧ bv.ownBlock ≠ some b
theorem CSt.off {C : Nat} {T F : Nat → Prop} {kv pv bv : Value} {ks : List XV} {cs : List Value} {t : Bt} {w w' : World} (h : CSt C T kv pv bv ks cs t w) (ho : Off F w w') (hF : ∀ b, F b → b < C) : CSt C T kv pv bv ks cs t w' :=
 ⟨ho.blk h.blk (fun hb => Nat.lt_irrefl _ (hF C hb)), h.addr, own_off h.kids ho (fun b hb e => by have := (World.ownsRow.lt h.kids b hb).1; have := hF b e; omega),
  XRs.off ho (fun b hb e => by have := (h.apart b hb).1; have := hF b e; omega) _ _ h.read,
  own_off h.buf ho (fun b hb e => by have := (World.ownsRow.lt h.buf b hb).1; have := hF b e; omega),
  fun b hb => by have := h.apart b hb; exact ⟨this.1, Nat.lt_of_lt_of_le this.2.1 ho.size, this.2.2⟩⟩
theorem CSt.used {C : Nat} {T : Nat → Prop} {kv pv bv : Value} {ks : List XV} {cs : List Value} {t : Bt} {w : World} (h : CSt C T kv pv bv ks cs t w) (pv' : Value) (hp : pv' = .pointer none ∨ pv' = .pointer (some ⟨C, 1, none⟩)) : CSt C T kv pv' bv ks cs t (w.setCell ⟨C, 1, none⟩ pv') := by
 have o := off_set8 w C 1 pv'
 refine ⟨by have := h.blk.set 1 pv'; simpa using this, hp, own_off h.kids o (fun b hb e => own_apartB h.kids h.blk (by decide) (by rw [hb, e])), XRs.off o (fun b hb e => by have := (h.apart b hb).1; omega) _ _ h.read,
  own_off h.buf o (fun b hb e => own_apartB h.buf h.blk (by decide) (by rw [hb, e])), fun b hb => by have := h.apart b hb; exact ⟨this.1, Nat.lt_of_lt_of_le this.2.1 o.size, this.2.2⟩⟩
theorem copyC_any {C : Nat} {T : Nat → Prop} {kv pv bv : Value} {ks : List XV} {cs : List Value} {t : Bt} {w : World} (h : CSt C T kv pv bv ks cs t w) :
    Calls Tryz.prog 93 #[.pointer (some ⟨C, 1, none⟩)] w fun e w' => e = .returned (.tuple #[]) ∧ CSt C T kv (.pointer (some ⟨C, 1, none⟩)) bv ks cs t w' ∧ Off (fun b => b = C) w w' := by
 rcases h.addr with e | e
 ·subst e
  refine (copyC_fresh h.blk).mono ?_
  rintro e w' ⟨rfl, rfl⟩
  exact ⟨rfl, h.used _ (.inr rfl), off_set8 _ _ _ _⟩
 ·subst e
  refine (copyC_used h.blk).mono ?_
  rintro e w' ⟨rfl, rfl⟩
  exact ⟨rfl, h, Off.refl _ _⟩
theorem strCells_bs (s : Bt) : Lib.strCells (bs s) = Lib.byteCells s := by
 unfold Lib.strCells
 rw [bs_list]
 rfl
theorem app_str_new {w w' : World} {B n : Nat} {v v' : Value} {xs : List Value} (hown : w.ownsRow B TBy 1 v n xs) (s : ByteArray) (h9 : n + s.size ≤ 1000000000) (ty : TypeId)
    (hr : (Builtin.append_ #[22, 9] ty #[v, .string s]).run Tryz.prog w = .ok v' w') : ∀ b, v'.ownBlock = some b → v.ownBlock = some b ∨ w.heap.size ≤ b := by
 obtain ⟨i0, hi, hz0, hz1, hz2⟩ := info_parts Tryz.info8Y
 intro b hb
 rcases hown.2 with ⟨rfl, rfl⟩ | ⟨g, cap, cur, rfl, _, hg, hnc, hcm, hcs, htake⟩
 ·have hx : xs = [] := List.eq_nil_of_length_eq_zero (by rw [hown.1])
  subst hx
  obtain ⟨v2, w2, hr2, h2, _, _⟩ := Lib.run_append_own_string (P := Tryz.prog) w w.heap.size 22 9 ty TBy i0 Tryz.underlying22 Tryz.underlying9 hi hz0 hz1 hz2 _ 0 [] (World.ownsRow_nil w w.heap.size TBy 1) s (by unfold maxLen; omega) (by omega) (Nat.le_refl _)
  rw [hr] at hr2
  injection hr2 with e1 _
  subst e1
  exact .inr (World.ownsRow.lt h2 b hb).1
 ·by_cases hroom : n + s.size ≤ cap
  ·have hr2 := Lib.run_append_room_string (P := Tryz.prog) w 22 9 ty TBy i0 Tryz.underlying22 Tryz.underlying9 hi hz1 g n cap cur hg s hroom (by omega)
   rw [hr] at hr2
   injection hr2 with e1 _
   subst e1
   exact .inl hb
  ·have holds : ∀ j u, xs[j]? = some u → w.cell? ((⟨g, 0, none⟩ : Addr).add j) = some u := World.ownsRow.cells hown (g := g) rfl
   have hr2 := Lib.run_append_grow_string (P := Tryz.prog) w 22 9 ty TBy i0 (.int .u8 0) Tryz.underlying22 Tryz.underlying9 hi hz0 ⟨g, 0, none⟩ n cap xs (by rw [hz1]; exact hown.1) holds s (by omega) (by omega) (by rw [hz2]; exact growslice_fits (by omega) (by omega))
   rw [hr] at hr2
   injection hr2 with e1 _
   subst e1
   right
   have := Option.some.inj hb
   simp at this
   omega
theorem appStr8 {ops : Array Oper} {rest : List Oper} {o : Oper} {a : Act} {Q : Exit → Act → World → Prop} (hgd : o.guard = none) (sl x : Operand)
    (ho : o.op = .call { callee := .builtin .append, args := #[sl, x], argTypes := #[22, 9] }) (w : World) (B : Nat) (v : Value) (t s : Bt) (hs : a.eval sl = v) (hown : w.ownsRow B TBy 1 v t.length (Lib.byteCells t)) (hx : a.eval x = .string (bs s))
    (h9 : t.length + s.length ≤ 1000000) (hB : B ≤ w.heap.size)
    (h : ∀ v' w', w'.ownsRow B TBy 1 v' (t ++ s).length (Lib.byteCells (t ++ s)) → Off (fun b => v.ownBlock = some b) w w' → (∀ b, v'.ownBlock = some b → v.ownBlock = some b ∨ w.heap.size ≤ b) → wpList Tryz.prog ops Q rest (a.put o.dst v') w') : wpList Tryz.prog ops Q (o :: rest) a w := by
 obtain ⟨i0, hi, hz0, hz1, hz2⟩ := info_parts Tryz.info8Y
 have hss : (bs s).size = s.length := by rw [size_list, bs_list]
 refine wpList_plain hgd fun K hK => ?_
 obtain ⟨v', w', hr, h2, h3, _⟩ := Lib.run_append_own_string (P := Tryz.prog) w B 22 9 o.type TBy i0 Tryz.underlying22 Tryz.underlying9 hi hz0 hz1 hz2 v _ _ hown (bs s) (by unfold maxLen; omega) (by omega) hB
 unfold Oper.wp execOp
 simp only [ho, resolve, invoke, builtin, Sem.run_bind, Sem.run_pure, Result.andThen_ok, List.map_toArray, List.map_cons, List.map_nil, hs, hx, hr]
 refine hK _ _ (h v' w' ?_ (Off.of_grown h3) (app_str_new hown (bs s) (by omega) _ hr))
 rw [strCells_bs, ← byteCells_append, hss, ← List.length_append] at h2
 exact h2
set_option maxRecDepth 100000 in
theorem writeC_any {C : Nat} {T : Nat → Prop} {kv pv bv : Value} {ks : List XV} {cs : List Value} {t : Bt} {w : World} (h : CSt C T kv pv bv ks cs t w) (s : Bt) (hl : t.length + s.length ≤ 1000000) :
    Calls Tryz.prog 66 #[.pointer (some ⟨C, 1, none⟩), .string (bs s)] w fun e w' => (∃ n, e = .returned (.tuple #[.int .i64 n, .nilIface])) ∧ (∃ pv' bv', CSt C T kv pv' bv' ks cs (t ++ s) w') ∧ Off (fun b => C ≤ b) w w' := by
 have H := hid (copyC_any h)
 clear h
 go_enter Tryz.func66, Tryz.ntmps66
 go_wp2_with (go_at_call 93; (with_reducible refine H.out.mono ?_))
 rintro e w1 ⟨rfl, h1, o1⟩
 have c2 : w1.cell? ⟨C, 2, none⟩ = some bv := h1.blk.cell 2
 have HO1 := hid o1
 have H1 := hid h1
 clear h1 o1
 have h1 := H1.out
 have hCw : C ≤ w1.heap.size := Nat.le_of_lt h1.blk.lt
 go_wp2_with (at_builtin; go_loud (refine appStr8 rfl _ _ rfl _ C bv t s rfl h1.buf rfl hl hCw ?_))
 intro v' w2 hown' o2 hnew
 rw [← List.length_append] at hown'
 have hge : ∀ b, bv.ownBlock = some b → C < b := fun b hb => by
  have h2 := (World.ownsRow.lt h1.buf b hb).1
  have h3 : b ≠ C := fun e => own_apartB h1.buf h1.blk (by decide) (by rw [hb, e])
  omega
 have hblk := o2.blk h1.blk (fun hb => by have := hge C hb; omega)
 have f2 := hblk.free 2
 have d2 : w2.cell? ⟨C, 2, none⟩ = some bv := hblk.cell 2
 have H2 : Hid (CSt C T kv (.pointer (some ⟨C, 1, none⟩)) v' ks cs (t ++ s) (w2.setCell ⟨C, 2, none⟩ v')) := hid (by
  have o3 := off_set8 w2 C 2 v'
  refine ⟨by have := hblk.set 2 v'; simpa using this, .inr rfl, ?_, ?_, ?_, ?_⟩
  ·exact own_off (own_off h1.kids o2 (fun b hb e => own_apart h1.kids h1.buf (by decide) hb e)) o3 (fun b hb e => own_apartB h1.kids h1.blk (by decide) (by rw [hb, e]))
  ·exact XRs.off o3 (fun b hb e => by have := (h1.apart b hb).1; omega) _ _ (XRs.off o2 (fun b hb e => (h1.apart b hb).2.2.2 e) _ _ h1.read)
  ·exact own_off hown' o3 (fun b hb e => by
    rcases hnew b hb with h | h
    ·have := hge b h; omega
    ·have := h1.blk.lt; omega)
  ·intro b hb
   have h2 := h1.apart b hb
   refine ⟨h2.1, Nat.lt_of_lt_of_le h2.2.1 (Nat.le_trans o2.size o3.size), h2.2.2.1, fun e => ?_⟩
   rcases hnew b e with h | h
   ·exact h2.2.2.2 h
   ·omega)
 have HO2 : Hid (Off (fun b => C ≤ b) w (w2.setCell ⟨C, 2, none⟩ v')) := hid (((HO1.out.mono (fun b h => Nat.le_of_eq h.symm)).then (o2.mono (fun b h => Nat.le_of_lt (hge b h)))).then ((off_set8 w2 C 2 v').mono (fun b h => Nat.le_of_eq h.symm)))
 obtain ⟨A, n', cap, rfl⟩ : ∃ ao n' cap, v' = .slice ao n' cap := by
  rcases hown'.2 with ⟨hv, _⟩ | ⟨g, cap, cur, hv, _⟩
  ·exact ⟨_, _, _, hv⟩
  ·exact ⟨_, _, _, hv⟩
 clear hown' o2 hge hblk hnew h1
 go_wp2
 go_ret2
 exact ⟨⟨_, rfl⟩, ⟨_, _, H2.out⟩, HO2.out⟩
theorem CSt.bv {C : Nat} {T : Nat → Prop} {kv pv bv : Value} {ks : List XV} {cs : List Value} {t : Bt} {w : World} (h : CSt C T kv pv bv ks cs t w) : ∃ A c, bv = .slice A t.length c := by
 rcases h.buf.2 with ⟨hv, h0⟩ | ⟨g, cap, cur, hv, _⟩
 ·exact ⟨none, 0, by rw [hv, h0]⟩
 ·exact ⟨_, _, hv⟩
theorem CSt.kv {C : Nat} {T : Nat → Prop} {kv pv bv : Value} {ks : List XV} {cs : List Value} {t : Bt} {w : World} (h : CSt C T kv pv bv ks cs t w) : ∃ A c, kv = .slice A ks.length c := by
 rcases h.kids.2 with ⟨hv, h0⟩ | ⟨g, cap, cur, hv, _⟩
 ·exact ⟨none, 0, by rw [hv, h0]⟩
 ·exact ⟨_, _, hv⟩
set_option maxRecDepth 100000 in
theorem lenC_any {C : Nat} {T : Nat → Prop} {kv pv bv : Value} {ks : List XV} {cs : List Value} {t : Bt} {w : World} (h : CSt C T kv pv bv ks cs t w) :
    Calls Tryz.prog 125 #[.pointer (some ⟨C, 1, none⟩)] w fun e w' => e = .returned (.int .i64 t.length) ∧ w = w' := by
 obtain ⟨A, c, rfl⟩ := h.bv
 have c2 : w.cell? ⟨C, 2, none⟩ = some (.slice A t.length c) := h.blk.cell 2
 clear h
 go_enter Tryz.func125, Tryz.ntmps125
 go_wp2
 go_ret
 exact ⟨rfl, rfl⟩
set_option maxRecDepth 100000 in
theorem strC_any {C : Nat} {T : Nat → Prop} {kv pv bv : Value} {ks : List XV} {cs : List Value} {t : Bt} {w : World} (h : CSt C T kv pv bv ks cs t w) (ht : t ≠ []) :
    Calls Tryz.prog 38 #[.pointer (some ⟨C, 1, none⟩)] w fun e w' => e = .returned (.string (bs t)) ∧ w'.heap.size = w.heap.size ∧ Off (fun b => bv.ownBlock = some b) w w' := by
 have hl0 : t.length ≠ 0 := by simpa using ht
 rcases h.buf.2 with ⟨_, hz⟩ | ⟨g, cap, cur, rfl, hbg, hg, hnc, hcm, hcs, htake⟩
 ·exact absurd hz hl0
 have c2 : w.drew.cell? ⟨C, 2, none⟩ = some (.slice (some ⟨g, 0, none⟩) t.length cap) := by
  have : Blk C (CoB kv pv (.slice (some ⟨g, 0, none⟩) t.length cap)) w.drew := h.blk
  exact this.cell 2
 have hSD : (Builtin.unsafeSliceData_ #[22] 102 #[.slice (some ⟨g, 0, none⟩) t.length cap]).run Tryz.prog w.drew = .ok (.pointer (some ⟨g, 0, none⟩)) w.drew :=
  Lib.run_unsafeSliceData_row _ _ _ _ _ _ (by omega)
 have hUS : (Builtin.unsafeString_ #[102, 3] 9 #[.pointer (some ⟨g, 0, none⟩), .int .i64 t.length]).run Tryz.prog w.drew = .ok (.string (bs t)) (w.drew.freeze ⟨g, 0, none⟩ t.length) := by
  refine Lib.run_unsafeString_row w.drew 102 3 9 5 Tryz.underlying102 (by kernel_rfl) g cur.size (by have hg' : w.drew.heap[g]? = some (.cells cur TBy (0, 0)) := hg; simp [World.shape?, hg']) t ht (by omega) (by unfold maxLen at hcm; omega) ?_
  intro j x hx
  exact World.ownsRow.cells h.buf (g := g) rfl j (.int .u8 x.toNat) (by simp [Lib.byteCells, hx])
 have HO : Hid (Off (fun b => Value.ownBlock (.slice (some ⟨g, 0, none⟩) t.length cap) = some b) w (w.drew.freeze ⟨g, 0, none⟩ t.length)) := hid (by
  have hb := Lib.below_freeze (Below.drew (Below.refl g w)) (p := ⟨g, 0, none⟩) (Nat.le_refl g) t.length
  refine ⟨hb.os, hb.tape, hb.output, hb.size, fun k _ hF => ?_⟩
  have hkg : ¬ g = k := fun e => hF (by rw [Value.ownBlock, e])
  unfold World.freeze
  rw [if_neg hl0]
  show (w.drew.heap.modify g _)[k]? = _
  rw [Array.getElem?_modify, if_neg hkg]
  rfl)
 have HZ : Hid ((w.drew.freeze ⟨g, 0, none⟩ t.length).heap.size = w.heap.size) := hid (by
  unfold World.freeze
  rw [if_neg hl0]
  show (w.drew.heap.modify g _).size = _
  rw [Array.size_modify]
  rfl)
 clear h hbg hg hnc hcm hcs htake hl0 ht
 go_enter Tryz.func38, Tryz.ntmps38
 go_wp2
 go_region
 all_goals (go_wp2; go_ret; exact ⟨rfl, HZ.out, HO.out⟩)
set_option maxRecDepth 100000 in
theorem resetC_any {C : Nat} {kv pv bv : Value} {w : World} (h : Blk C (CoB kv pv bv) w) :
    Calls Tryz.prog 126 #[.pointer (some ⟨C, 1, none⟩)] w fun e w' => e = .returned (.tuple #[]) ∧ Blk C (CoB kv (.pointer none) (.slice none 0 0)) w' ∧ Off (fun b => b = C) w w' := by
 have HB : Hid (Blk C (CoB kv (.pointer none) (.slice none 0 0)) ((w.setCell ⟨C, 1, none⟩ (.pointer none)).setCell ⟨C, 2, none⟩ (.slice none 0 0))) := hid (by
  have := (h.set 1 (.pointer none)).set 2 (.slice none 0 0)
  simpa using this)
 have f1 := h.free 1
 have f2 := h.free 2
 have c1 : w.cell? ⟨C, 1, none⟩ = some pv := h.cell 1
 have c2 : w.cell? ⟨C, 2, none⟩ = some bv := h.cell 2
 clear h
 go_enter Tryz.func126, Tryz.ntmps126
 go_wp2
 go_end0
 exact ⟨rfl, HB.out, (off_set8 _ _ _ _).then (off_set8 _ _ _ _)⟩
abbrev TY8 : TypeId := 5
abbrev TSb : TypeId := 69
abbrev BI (B b : Nat) (acc : Bt) (w : World) : Prop := Lib.IsBuilderF TSb TY8 B b (byteCells acc) w
theorem cells_of8 (s : Bt) : Lib.strCells (bs s) = byteCells s := by
 unfold Lib.strCells Lib.byteCells
 simp [bs]
theorem kept_below {e : TypeId} {b : Option Nat} {w w' : World} (h : Below w.heap.size w w') : Lib.OthersKept e b w w' := fun k o hk _ _ => by
 have hlt : k < w.heap.size := (Array.getElem?_eq_some_iff.1 hk).1
 rw [h.block k hlt]
 exact hk
structure BSt (w0 : World) (b : Nat) (acc : Bt) (W w : World) : Prop where
 bld : BI w0.heap.size b acc w
 since : Below w0.heap.size w0 w
 below : Below w0.heap.size W w
 oth : Lib.OthersKept TY8 (some b) W w
section
variable {w0 W w w' : World} {b : Nat} {acc acc' : Bt}
theorem BSt.le (S : BSt w0 b acc W w) : w0.heap.size ≤ w.heap.size := S.since.size
theorem BSt.lt (S : BSt w0 b acc W w) : b < w.heap.size := S.bld.elim (fun h => h.lt) (fun h => h.lt)
theorem BSt.step (S : BSt w0 b acc W w) (h1 : Lib.BuilderAtF TSb TY8 w0.heap.size b (.pointer (some ⟨b, 0, none⟩)) (byteCells acc') w') (h2 : Below w0.heap.size w w') (h3 : Lib.OthersKept TY8 (some b) w w') : BSt w0 b acc' W w' :=
 ⟨.inr h1, S.since.trans h2, S.below.trans h2, S.oth.trans h3⟩
theorem BSt.call (S : BSt w0 b acc W w) (h : Below w.heap.size w w') : BSt w0 b acc W w' :=
 ⟨bf_below S.bld h, S.since.trans (h.mono S.le), S.below.trans (h.mono S.le), S.oth.trans (kept_below h)⟩
theorem BSt.comp (S : BSt w0 b acc W w) (S' : BSt w0 b acc' w w') : BSt w0 b acc' W w' :=
 ⟨S'.bld, S'.since, S.below.trans S'.below, S.oth.trans S'.oth⟩
theorem BSt.here (S : BSt w0 b acc W w) : BSt w0 b acc w w :=
 ⟨S.bld, S.since, Below.refl _ _, kept_below (Below.refl _ _)⟩
theorem BSt.blk (S : BSt w0 b acc W w) {X : Nat} {c : Array Value} {T : TypeId} (hb : Blk X (.cells c T (0, 0)) W) (hX : X ≠ b) (hT : T ≠ TY8) : Blk X (.cells c T (0, 0)) w :=
 S.oth X _ hb (fun e => hX (Option.some.inj e)) (fun c' fz e => by injection e with e1 e2 e3; exact absurd e2 hT)
theorem BSt.cell (S : BSt w0 b acc W w) {p : Addr} {v : Value} (hp : p.block < w0.heap.size) (hc : w0.cell? p = some v) : w.cell? p = some v := (S.since.cell hp).trans hc
def BWr (w0 : World) (b : Nat) (acc : Bt) (W : World) (e : Ending) (w' : World) : Prop := e = .returned (.tuple #[]) ∧ BSt w0 b acc W w'
theorem wS8 (S : BSt w0 b acc W w) (s : Bt) (hl : acc.length + s.length ≤ 1000000000) :
    Calls Tryz.prog 66 #[.pointer (some ⟨b, 0, none⟩), .string (bs s)] w fun e w' => (∃ z, e = .returned (.tuple #[.int .i64 z, .nilIface])) ∧ BSt w0 b (acc ++ s) W w' := by
 have := sbWrite w0.heap.size b (byteCells acc) (bs s) w S.bld (by rw [Lib.byteCells_length, bs_size]; omega) S.le
 rw [cells_of8, ← byteCells_append] at this
 exact this.mono (fun e w' h => ⟨⟨_, h.1⟩, S.step h.2.1 h.2.2.1 h.2.2.2⟩)
theorem wB8 (S : BSt w0 b acc W w) (c : UInt8) (z : Int) (hz : (c.toNat : Int) = z) (hl : acc.length + 1 ≤ 1000000000) :
    Calls Tryz.prog 68 #[.pointer (some ⟨b, 0, none⟩), .int .u8 z] w fun e w' => e = .returned .nilIface ∧ BSt w0 b (acc ++ [c]) W w' := by
 subst hz
 have := sbByte w0.heap.size b (byteCells acc) (c.toNat : Int) w S.bld (by rw [Lib.byteCells_length]; omega) S.le
 rw [show byteCells acc ++ [Value.int .u8 (c.toNat : Int)] = byteCells (acc ++ [c]) from by rw [byteCells_append]; rfl] at this
 exact this.mono (fun e w' h => ⟨h.1, S.step h.2.1 h.2.2.1 h.2.2.2⟩)
theorem BSt.ml (S : BSt w0 b acc W w) (h : ML w0) : ML w := h.below S.since
end
theorem html8_any (t : Bt) (hs : t.length ≤ 1000000) (w : World) : Calls Tryz.prog 67 #[.string (bs t)] w fun e w' => e = .returned (.string (bs (htmlB t))) ∧ Below w.heap.size w w' := by
 have := html_any (bs t) w (by rw [bs_size]; exact hs)
 rw [bs_list] at this
 exact this
theorem htmlB_len (t : Bt) : (htmlB t).length ≤ 24 * t.length := by
 unfold htmlB
 have h1 := html_length ((pts t).filter inXml)
 have h2 := List.length_filter_le inXml (pts t)
 have h3 := pts_length_le t
 have h4 := enc_length_le (html ((pts t).filter inXml))
 omega
theorem attrV_len (l : Bt) : (attrV l).length ≤ 5 * l.length := by
 induction l with
 | nil => exact Nat.le_refl _
 | cons c l ih =>
  unfold attrV at ih ⊢
  rw [List.flatMap_cons, List.length_append, List.length_cons]
  have : (attrC c).length ≤ 5 := by unfold attrC; split; · decide
                                    ·split <;> simp
  omega
theorem attrP_len (nm v : Bt) : (attrP nm v).length ≤ nm.length + 120 * v.length + 4 := by
 unfold attrP
 have h1 := attrV_len (htmlB v)
 have h2 := htmlB_len v
 simp only [List.length_cons, List.length_append, List.length_nil]
 omega
set_option maxRecDepth 100000 in
set_option maxHeartbeats 2000000 in
theorem writeAttr_any {w0 W w : World} {b : Nat} {acc : Bt} (S : BSt w0 b acc W w) (nm v : Bt) (hn : nm.length ≤ 1000000) (hv : v.length ≤ 1000000) (ha : acc.length ≤ 800000000) (hm : ML w0) :
    Calls Tryz.prog 69 #[.pointer (some ⟨b, 0, none⟩), .string (bs nm), .string (bs v)] w (BWr w0 b (acc ++ attrP nm v) W) := by
 have HH := hid (fun V => html8_any v hv V)
 have hl1 := htmlB_len v
 have hl2 := repl_len (old := [10]) (new := [38, 35, 49, 48, 59]) (by decide) _ (htmlB v) (Nat.le_refl _)
 simp only [List.length_cons, List.length_nil] at hl2
 have hl3 := attrV_len (htmlB v)
 have HR1 : Hid (∀ V, ML V → Calls Tryz.prog 95 #[.string (bs (htmlB v)), .string ⟨#[10]⟩, .string ⟨#[38, 35, 49, 48, 59]⟩] V (fun e w' => e = .returned (.string (bs (replL [10] [38, 35, 49, 48, 59] (htmlB v)))) ∧ Below V.heap.size V w')) := hid (fun V hV => repl_any [10] [38, 35, 49, 48, 59] (htmlB v) (by decide) (by decide) (by decide) (by omega) V hV)
 have HR2 : Hid (∀ V, ML V → Calls Tryz.prog 95 #[.string (bs (replL [10] [38, 35, 49, 48, 59] (htmlB v))), .string ⟨#[9]⟩, .string ⟨#[38, 35, 57, 59]⟩] V (fun e w' => e = .returned (.string (bs (attrV (htmlB v)))) ∧ Below V.heap.size V w')) := hid (fun V hV => by
  have := repl_any [9] [38, 35, 57, 59] (replL [10] [38, 35, 49, 48, 59] (htmlB v)) (by decide) (by decide) (by decide) (by omega) V hV
  rw [attr_repl] at this
  exact this)
 have HE : Hid (acc ++ attrP nm v = ((((acc ++ [32]) ++ nm) ++ [61, 34]) ++ attrV (htmlB v)) ++ [34]) := hid (by unfold attrP; simp)
 have HS := hid S
 have HM := hid hm
 have hL : (attrV (htmlB v)).length ≤ 120000000 := by omega
 rw [HE.out]
 generalize attrV (htmlB v) = x at *
 generalize replL [10] [38, 35, 49, 48, 59] (htmlB v) = y at *
 generalize htmlB v = z at *
 clear S hl1 hl2 hl3 hv hm
 go_enter Tryz.func69, Tryz.ntmps69
 go_wp2_with fail
 refine (HH.out _).mono ?_
 rintro e w1 ⟨rfl, b1⟩
 have HS1 := hid (HS.out.call b1)
 clear b1
 go_wp2_with fail
 refine (HR1.out _ (HS1.out.ml HM.out)).mono ?_
 rintro e w2 ⟨rfl, b2⟩
 have HS2 := hid (HS1.out.call b2)
 clear b2
 go_wp2_with fail
 refine (HR2.out _ (HS2.out.ml HM.out)).mono ?_
 rintro e w3 ⟨rfl, b3⟩
 have HS3 := hid (HS2.out.call b3)
 clear b3
 go_wp2_with fail
 refine (wB8 HS3.out 32 32 rfl (by omega)).mono ?_
 rintro e w4 ⟨rfl, s4⟩
 have HS4 := hid s4
 clear s4
 go_wp2_with fail
 refine (wS8 HS4.out nm (by simp only [List.length_append, List.length_cons, List.length_nil]; omega)).mono ?_
 rintro e w5 ⟨⟨z5, rfl⟩, s5⟩
 have HS5 := hid s5
 clear s5
 go_wp2_with fail
 refine (wS8 HS5.out [61, 34] (by simp only [List.length_append, List.length_cons, List.length_nil]; omega)).mono ?_
 rintro e w6 ⟨⟨z6, rfl⟩, s6⟩
 have HS6 := hid s6
 clear s6
 go_wp2_with fail
 refine (wS8 HS6.out x (by simp only [List.length_append, List.length_cons, List.length_nil]; omega)).mono ?_
 rintro e w7 ⟨⟨z7, rfl⟩, s7⟩
 have HS7 := hid s7
 clear s7
 go_wp2_with fail
 refine (wB8 HS7.out 34 34 rfl (by simp only [List.length_append, List.length_cons, List.length_nil]; omega)).mono ?_
 rintro e w8 ⟨rfl, s8⟩
 have HS8 := hid s8
 clear s8
 go_wp2
 first | go_end0 | refine bodyPost_ret (results_none rfl _ _ _) rfl ?_
 exact ⟨rfl, HS8.out⟩
abbrev TT : TypeId := 62
def TS (X : Nat) (s : Bt) (k : Nat) (w : World) : Prop := Blk X (.cells #[.string (bs s), .int .i64 k] TT (0, 0)) w
theorem TS.c0 {X : Nat} {s : Bt} {k : Nat} {w : World} (h : TS X s k w) : w.cell? ⟨X, 0, none⟩ = some (.string (bs s)) := Blk.cell h 0
theorem TS.c1 {X : Nat} {s : Bt} {k : Nat} {w : World} (h : TS X s k w) : w.cell? ⟨X, 1, none⟩ = some (.int .i64 k) := Blk.cell h 1
theorem TS.free {X : Nat} {s : Bt} {k : Nat} {w : World} (h : TS X s k w) (j : Nat) : w.frozen? ⟨X, j, none⟩ = false := Blk.free h j
theorem TS.below {X : Nat} {s : Bt} {k : Nat} {w w' : World} (h : TS X s k w) (hb : Below w.heap.size w w') : TS X s k w' := (Off.of_below hb).blk h (fun h => h)
theorem TS.set {X : Nat} {s : Bt} {k : Nat} {w : World} (h : TS X s k w) (k' : Nat) : TS X s k' (w.setCell ⟨X, 1, none⟩ (.int .i64 k')) := Blk.set h 1 (.int .i64 k')
theorem TS.lt {X : Nat} {s : Bt} {k : Nat} {w : World} (h : TS X s k w) : X < w.heap.size := Blk.lt h
theorem TS.off {X : Nat} {s : Bt} {k : Nat} {w w' : World} {F : Nat → Prop} (h : TS X s k w) (ho : Off F w w') (hF : ¬ F X) : TS X s k w' := ho.blk h hF
theorem Off.drewN {F : Nat → Prop} {w w' : World} (h : Off F w w') (n : Nat) : Off F w (w'.drewN n) := h.trans (Off.of_below (below_drewN (Below.refl _ _) n)) (fun _ h => h.elim)
theorem TS.drewN {X : Nat} {s : Bt} {k : Nat} {w : World} (h : TS X s k w) (n : Nat) : TS X s k (w.drewN n) := h.below (below_drewN (Below.refl _ _) n)
theorem drop_a8 (s : Bt) (k : Nat) (h : k < s.length) : s.drop k = s[k] :: s.drop (k + 1) := List.drop_eq_getElem_cons h
theorem slice_mid (s : Bt) (k m : Nat) (z : Int) (hz : z = (k : Int) + (m : Int)) (h : k + m ≤ s.length) (r : Bt) (hr : (s.drop k).take m = r) (W : World) : (Instr.slice 9 (.string (bs s)) (some (.int .i64 k)) (some (.int .i64 z)) none).run Tryz.prog W = .ok (.string (bs r)) W := by
 subst hz hr
 have hsz := bs_size s
 refine (run_slice_string (P := Tryz.prog) W 9 (bs s) .i64 .i64 (k : Int) ((k : Int) + (m : Int)) Tryz.underlying9 (by omega) (by omega) (by omega)).trans ?_
 congr 2
 apply ByteArray.ext
 apply Array.ext'
 rw [show ((k : Int)).toNat = k from by omega, show ((k : Int) + (m : Int)).toNat = k + m from by omega]
 unfold bs
 simp [ByteArray.data_extract, List.take_drop]
theorem pre_take8 (w t : Bt) : w.isPrefixOf t = (decide (w.length ≤ t.length) && (t.take w.length == w)) := by
 by_cases h : w.isPrefixOf t = true
 ·rw [h]
  obtain ⟨r, rfl⟩ := List.isPrefixOf_iff_prefix.1 h
  simp
 ·have hf : w.isPrefixOf t = false := Bool.eq_false_iff.2 h
  rw [hf]
  symm
  rw [Bool.and_eq_false_iff]
  refine .inr (beq_eq_false_iff_ne.2 fun e => h ?_)
  rw [List.isPrefixOf_iff_prefix, ← e]
  exact List.take_prefix _ _
def atOf (X : Nat) (w : World) : Nat := match w.cell? ⟨X, 1, none⟩ with | some (.int _ z) => z.toNat | _ => 0
theorem TS.at {X : Nat} {s : Bt} {k : Nat} {w : World} (h : TS X s k w) : atOf X w = k := by
 unfold atOf
 rw [h.c1]
 rfl
def preB (s : Bt) (k : Nat) (wd : Bt) : Bool := wd.isPrefixOf (s.drop k)
set_option maxRecDepth 100000 in
set_option maxHeartbeats 2000000 in
theorem tlooks_any {X : Nat} {s : Bt} {k : Nat} {w : World} (h : TS X s k w) (hk : k ≤ s.length + 1) (hs : s.length ≤ 1000000000) (wd : Bt) (h0 : wd ≠ []) (hw : wd.length ≤ 1000) (ob : Bool) (hob : preB s k wd = ob) :
    Calls Tryz.prog 31 #[.pointer (some ⟨X, 0, none⟩), .string (bs wd)] w fun e w' => e = .returned (.bool ob) ∧ Below w.heap.size w w' := by
 obtain ⟨n, hn⟩ : ∃ n, s.length = n := ⟨_, rfl⟩
 obtain ⟨m, hm⟩ : ∃ n, wd.length = n := ⟨_, rfl⟩
 have hm0 : 0 < m := by rw [← hm]; exact List.length_pos_iff.2 h0
 have hsz : (bs s).size = n := by rw [bs_size, hn]
 have hwz : (bs wd).size = m := by rw [bs_size, hm]
 unfold preB at hob
 rw [pre_take8, List.length_drop, hn, hm] at hob
 rw [hn] at hk hs
 rw [hm] at hw
 have c0 := h.c0
 have c1 := h.c1
 have hwr : IntKind.i64.wrap ((n : Int) - (k : Int)) = (n : Int) - (k : Int) := IntWalk.i64_in _ (by omega)
 by_cases hlt : m ≤ n - k
 ·obtain ⟨x, hx⟩ : ∃ x, (s.drop k).take m = x := ⟨_, rfl⟩
  have hsl : ∀ W, (Instr.slice 9 (.string (bs s)) (some (.int .i64 k)) (some (.int .i64 ((k : Int) + (m : Int)))) none).run Tryz.prog W = .ok (.string (bs x)) W := fun W => slice_mid s k m _ rfl (by omega) x hx W
  have heq : ((bs x).toList == (bs wd).toList) = ob := by rw [eqS8, ← hob, hx, decide_eq_true hlt, Bool.true_and]
  have hwr2 : IntKind.i64.wrap ((k : Int) + (m : Int)) = (k : Int) + (m : Int) := IntWalk.i64_in _ (by omega)
  have hdk : decide ((m : Int) ≤ (n : Int) - (k : Int)) = true := decide_eq_true (by omega)
  have i0' : (0 : Int) ≤ (k : Int) := by omega
  have i1' : (k : Int) ≤ (k : Int) + (m : Int) := by omega
  have i2' : (k : Int) + (m : Int) ≤ (n : Int) := by omega
  clear hob hx hn hm h h0
  go_enter Tryz.func31, Tryz.ntmps31
  go_wp2
  go_quiet (fail)
  go_wp2
  go_ret
  exact ⟨rfl, below_drewN (Below.refl _ _) _⟩
 ·have hof : false = ob := by rw [← hob, decide_eq_false hlt]; rfl
  subst hof
  have hdk : decide ((m : Int) ≤ (n : Int) - (k : Int)) = false := decide_eq_false (by omega)
  clear hob hn hm h h0
  go_enter Tryz.func31, Tryz.ntmps31
  go_wp2
  go_quiet (fail)
  go_wp2
  go_ret
  exact ⟨rfl, below_drewN (Below.refl _ _) _⟩
set_option maxRecDepth 100000 in
set_option maxHeartbeats 2000000 in
theorem tword_any {X : Nat} {s : Bt} {k : Nat} {w : World} (h : TS X s k w) (hk : k ≤ s.length + 1) (hs : s.length ≤ 1000000000) (wd : Bt) (h0 : wd ≠ []) (hw : wd.length ≤ 1000) (ob : Bool) (hob : preB s k wd = ob) :
    Calls Tryz.prog 33 #[.pointer (some ⟨X, 0, none⟩), .string (bs wd)] w fun e w' => e = .returned (.bool ob) ∧ TS X s (if ob then k + wd.length else k) w' ∧ Off (fun b => b = X) w w' := by
 have HL := hid (tlooks_any h hk hs wd h0 hw ob hob)
 obtain ⟨m, hm⟩ : ∃ n, wd.length = n := ⟨_, rfl⟩
 have hwz : (bs wd).size = m := by rw [bs_size, hm]
 have H0 := hid h
 have hkb : k ≤ 1000000001 := by omega
 rw [hm] at hw ⊢
 have hwr2 : IntKind.i64.wrap ((k : Int) + (m : Int)) = (k : Int) + (m : Int) := IntWalk.i64_in _ (by omega)
 clear h hob h0 hk hs hm
 cases ob with
 | false =>
  go_enter Tryz.func33, Tryz.ntmps33
  go_wp2_with (go_at_call 31; (with_reducible refine HL.out.mono ?_); rintro e w1 ⟨rfl, b1⟩)
  go_ret
  exact ⟨rfl, H0.out.below b1, (Off.of_below b1).mono (fun _ h => h.elim)⟩
 | true =>
  go_enter Tryz.func33, Tryz.ntmps33
  go_wp2_with (go_at_call 31; (with_reducible refine HL.out.mono ?_); rintro e w1 ⟨rfl, b1⟩; have h1 := H0.out.below b1; have z1 := h1.c1; have zf := h1.free 1; have HO1 := hid ((Off.of_below b1).mono (G := fun b => b = X) (fun _ h => h.elim)); have HN1 : Hid (TS X s (k + m) (w1.setCell ⟨X, 1, none⟩ (.int .i64 ((k : Int) + (m : Int))))) := hid (h1.set (k + m)); clear h1 b1)
  go_ret
  exact ⟨rfl, HN1.out, HO1.out.trans (off_set8 _ _ _ _) (fun _ h => .inl h)⟩
theorem lines_skip (r : Bt) (h : r.head? = some 10) : linesL (13 :: r) = linesL r := by rw [linesL, if_pos rfl, if_pos h]
theorem lines_turn (r : Bt) (h : r.head? ≠ some 10) : linesL (13 :: r) = 10 :: linesL r := by rw [linesL, if_pos rfl, if_neg h]
theorem lines_same (c : UInt8) (r : Bt) (h : c ≠ 13) : linesL (c :: r) = c :: linesL r := by rw [linesL, if_neg h]
theorem own_conv8 {w : World} {B : Nat} {v : Value} {l : Bt} (h : OwnB w B v l) : (convert 22 9 v).run Tryz.prog w = .ok (.string (bs l)) w := h.conv
theorem drop_c8 (s : Bt) (k : Nat) (h : k < s.length) : s.drop k = s[k] :: s.drop (k + 1) := List.drop_eq_getElem_cons h
set_option maxRecDepth 100000 in
set_option maxHeartbeats 4000000 in
theorem rlines_any (s : Bt) (w : World) (hs : s.length ≤ 1000000) : Calls Tryz.prog 25 #[.string (bs s)] w fun e w' => e = .returned (.string (bs (linesL s))) ∧ Below w.heap.size w w' := by
 obtain ⟨n, hn⟩ : ∃ n, s.length = n := ⟨_, rfl⟩
 have hsz : (bs s).size = n := by rw [bs_size, hn]
 have HN := hid hn
 rw [hn] at hs
 have HIX : Hid (∀ (k : Nat) (h : k < s.length) (z : Int), (s[k].toNat : Int) = z → ∀ W, (Instr.index 9 (.string (bs s)) (.int .i64 k)).run Tryz.prog W = .ok (.int .u8 z) W) := hid (fun k h z hz W => byte_run8 s k z h hz W)
 have HIX1 : Hid (∀ (k : Nat) (h : k + 1 < s.length) (z : Int), (s[k + 1].toNat : Int) = z → ∀ W, (Instr.index 9 (.string (bs s)) (.int .i64 ((k : Int) + 1))).run Tryz.prog W = .ok (.int .u8 z) W) := hid (fun k h z hz W => by have := byte_run8 s (k + 1) z h hz W; exact this)
 generalize bs s = S at *
 clear hn
 go_enter Tryz.func25, Tryz.ntmps25
 go_wp2
 go_loopw [3, 4] (fun v i wr => ∃ (k : Nat) (acc : Bt), k ≤ n ∧ i = .int .i64 k ∧ OwnB wr w.heap.size v acc ∧ Below w.heap.size w wr ∧ acc.length ≤ k ∧ Hid (acc ++ linesL (s.drop k) = linesL s)) (fun _ i _ => n - (RowKit.intOf i).toNat)
 case atStart => exact ⟨0, [], Nat.zero_le _, rfl, ownB_nil _ _, Below.refl _ _, Nat.le_refl _, hid rfl⟩
 case round =>
  obtain ⟨k, acc, hk, rfl, hown, hbw, hal, HA⟩ := hrel
  have hbsz := hbw.size
  by_cases hlt : k < n
  ·have hkl : k < s.length := by rw [HN.out]; exact hlt
   have HD := hid (drop_c8 s k hkl)
   obtain ⟨c, hc⟩ : ∃ c, s[k] = c := ⟨_, rfl⟩
   rw [hc] at HD
   by_cases h13 : c = 13
   ·have hix : ∀ W, (Instr.index 9 (.string S) (.int .i64 k)).run Tryz.prog W = .ok (.int .u8 13) W := HIX.out k hkl 13 (by rw [hc, h13]; rfl)
    subst h13
    by_cases h1 : k + 1 < n
    ·have hkl1 : k + 1 < s.length := by rw [HN.out]; exact h1
     have hlt1 : (k : Int) + 1 < (n : Int) := by omega
     have HD1 := hid (drop_c8 s (k + 1) hkl1)
     obtain ⟨d, hd⟩ : ∃ c, s[k + 1] = c := ⟨_, rfl⟩
     rw [hd] at HD1
     by_cases h10 : d = 10
     ·have hix1 : ∀ W, (Instr.index 9 (.string S) (.int .i64 ((k : Int) + 1))).run Tryz.prog W = .ok (.int .u8 10) W := HIX1.out k hkl1 10 (by rw [hd, h10]; rfl)
      have HV : Hid (acc ++ linesL (s.drop (k + 1)) = linesL s) := hid (by rw [← HA.out, HD.out, lines_skip _ (by rw [HD1.out, h10]; rfl)])
      clear hc hd h10
      go_wp2
      go_roundw
      case rel => exact ⟨k + 1, acc, by omega, by go_num, hown, hbw, by omega, HV⟩
      case measure => simp [RowKit.intOf]; omega
     ·obtain ⟨z, hz⟩ : ∃ z : Int, (d.toNat : Int) = z := ⟨_, rfl⟩
      have hix1 : ∀ W, (Instr.index 9 (.string S) (.int .i64 ((k : Int) + 1))).run Tryz.prog W = .ok (.int .u8 z) W := HIX1.out k hkl1 z (by rw [hd, hz])
      have hne : (z == 10) = false := by rw [← hz]; exact beqF d 10 h10
      have HV : Hid ((acc ++ [10]) ++ linesL (s.drop (k + 1)) = linesL s) := hid (by rw [← HA.out, HD.out, lines_turn _ (by rw [HD1.out]; simpa using h10)]; simp)
      clear hc hd h10 hz
      go_wp2_with (at_builtin; refine appB rfl _ _ rfl wr w w.heap.size w.heap.size _ acc [10] _ 1 rfl rfl rfl (by exact hown) rfl (by omega) (by omega) (Nat.le_refl _) hbw ?_)
      intro v' w2 hown' hb'
      clear hown hbw
      go_wp2
      go_roundw
      case rel => exact ⟨k + 1, acc ++ [10], by omega, by go_num, hown', hb', by rw [List.length_append, List.length_singleton]; omega, HV⟩
      case measure => simp [RowKit.intOf]; omega
    ·have hlt1 : ¬ (k : Int) + 1 < (n : Int) := by omega
     have hdr : s.drop (k + 1) = [] := List.drop_of_length_le (by rw [HN.out]; omega)
     have HV : Hid ((acc ++ [10]) ++ linesL (s.drop (k + 1)) = linesL s) := hid (by rw [← HA.out, HD.out, lines_turn _ (by rw [hdr]; simp)]; simp)
     clear hc hdr
     go_wp2_with (at_builtin; refine appB rfl _ _ rfl wr w w.heap.size w.heap.size _ acc [10] _ 1 rfl rfl rfl (by exact hown) rfl (by omega) (by omega) (Nat.le_refl _) hbw ?_)
     intro v' w2 hown' hb'
     clear hown hbw
     go_wp2
     go_roundw
     case rel => exact ⟨k + 1, acc ++ [10], by omega, by go_num, hown', hb', by rw [List.length_append, List.length_singleton]; omega, HV⟩
     case measure => simp [RowKit.intOf]; omega
   ·obtain ⟨z, hz⟩ : ∃ z : Int, (c.toNat : Int) = z := ⟨_, rfl⟩
    have hix : ∀ W, (Instr.index 9 (.string S) (.int .i64 k)).run Tryz.prog W = .ok (.int .u8 z) W := HIX.out k hkl z (by rw [hc, hz])
    have hne : (z == 13) = false := by rw [← hz]; exact beqF c 13 h13
    have HV : Hid ((acc ++ [c]) ++ linesL (s.drop (k + 1)) = linesL s) := hid (by rw [← HA.out, HD.out, lines_same _ _ h13]; simp)
    have HZ : Hid (#[Value.int .u8 z] = (byteCells [c]).toArray) := hid (by rw [← hz]; rfl)
    clear hc h13 hz
    go_wp2_with (at_builtin; refine appB rfl _ _ rfl wr w w.heap.size w.heap.size _ acc [c] _ 1 HZ.out rfl rfl (by exact hown) rfl (by omega) (by omega) (Nat.le_refl _) hbw ?_)
    intro v' w2 hown' hb'
    clear hown hbw
    go_wp2
    go_roundw
    case rel => exact ⟨k + 1, acc ++ [c], by omega, by go_num, hown', hb', by rw [List.length_append, List.length_singleton]; omega, HV⟩
    case measure => simp [RowKit.intOf]; omega
  ·obtain rfl : n = k := by omega
   have hdr : s.drop n = [] := List.drop_of_length_le (by rw [HN.out]; exact Nat.le_refl _)
   rw [hdr] at HA
   have hv : acc = linesL s := by have := HA.out; rw [show linesL [] = [] from rfl, List.append_nil] at this; exact this
   have hcv := own_conv8 hown
   rw [hv] at hcv
   clear hv hdr
   go_wp2
   go_ret
   exact ⟨rfl, hbw⟩
theorem plain_one (p : Int) (hp : isPt p = true) : (bs (enc ((pts (enc [p])).filter inXml))).toList = [] ↔ inXml p = false := by
 rw [bs_toList, pts_enc' [p] (by intro z hz; rw [List.mem_singleton.1 hz]; exact hp)]
 cases hx : inXml p with
 | true =>
  rw [List.filter_cons_of_pos hx, List.filter_nil]
  constructor
  ·intro h; exact absurd h (enc_ne (List.cons_ne_nil _ _))
  ·intro h; cases h
 | false =>
  rw [List.filter_cons_of_neg (by rw [hx]; decide), List.filter_nil]
  exact ⟨fun _ => rfl, fun _ => rfl⟩
def RfO (o : Option Bt) (w : World) (e : Ending) (w' : World) : Prop := e = .returned (.tuple #[.string (bs (o.getD [])), .bool o.isSome]) ∧ Below w.heap.size w w'
theorem RfO.bad {o : Option Bt} {w w' : World} (h : o = none) (hb : Below w.heap.size w w') : RfO o w (.returned (.tuple #[.string ⟨#[]⟩, .bool false])) w' := by subst h; exact ⟨rfl, hb⟩
theorem RfO.good {o : Option Bt} {l : Bt} {w w' : World} (h : o = some l) (hb : Below w.heap.size w w') : RfO o w (.returned (.tuple #[.string (bs l), .bool true])) w' := by subst h; exact ⟨rfl, hb⟩
set_option maxRecDepth 100000 in
set_option maxHeartbeats 8000000 in
theorem rrefs_any (s : Bt) (w : World) (hs : s.length ≤ 1000000) : Calls Tryz.prog 86 #[.string (bs s)] w (RfO (refsL s) w) := by
 obtain ⟨n, hn⟩ : ∃ n, s.length = n := ⟨_, rfl⟩
 have hsz : (bs s).size = n := by rw [bs_size, hn]
 have HN := hid hn
 rw [hn] at hs
 have HIX : Hid (∀ (k : Nat) (h : k < s.length) (z : Int), (s[k].toNat : Int) = z → ∀ W, (Instr.index 9 (.string (bs s)) (.int .i64 k)).run Tryz.prog W = .ok (.int .u8 z) W) := hid (fun k h z hz W => byte_run8 s k z h hz W)
 have HSL : Hid (∀ (k : Nat) (h : k ≤ s.length) (W : World), (Instr.slice 9 (.string (bs s)) (some (.int .i64 k)) none none).run Tryz.prog W = .ok (.string (bs (s.drop k))) W) := hid (fun k h W => slice_back8 s k h W)
 generalize bs s = S at *
 obtain ⟨o, ho⟩ : ∃ o, refsL s = o := ⟨_, rfl⟩
 rw [ho]
 have HO : Hid (o = (refsL (s.drop 0)).map (([] : Bt) ++ ·)) := hid (by rw [List.drop_zero, ho]; cases o <;> rfl)
 clear hn ho
 go_enter Tryz.func86, Tryz.ntmps86
 go_wp2
 go_loopw [4, 5] (fun v i wr => ∃ (k : Nat) (acc : Bt), k ≤ n ∧ i = .int .i64 k ∧ OwnB wr w.heap.size v acc ∧ Below w.heap.size w wr ∧ acc.length ≤ 4 * k ∧ Hid (o = (refsL (s.drop k)).map (acc ++ ·))) (fun _ i _ => n - (RowKit.intOf i).toNat)
 case atStart => exact ⟨0, [], Nat.zero_le _, rfl, ownB_nil _ _, Below.refl _ _, Nat.zero_le _, HO⟩
 case round =>
  clear HO
  obtain ⟨k, acc, hk, rfl, hown, hbw, hal, HA⟩ := hrel
  have hbsz := hbw.size
  by_cases hlt : k < n
  ·have hkl : k < s.length := by rw [HN.out]; exact hlt
   have HD := hid (drop_c8 s k hkl)
   obtain ⟨c, hc⟩ : ∃ c, s[k] = c := ⟨_, rfl⟩
   rw [hc] at HD
   by_cases h38 : c = 38
   ·have hix : ∀ W, (Instr.index 9 (.string S) (.int .i64 k)).run Tryz.prog W = .ok (.int .u8 38) W := HIX.out k hkl 38 (by rw [hc, h38]; rfl)
    have hsl := HSL.out k (by omega)
    subst h38
    obtain ⟨q, hq⟩ : ∃ q, refQ (s.drop (k + 1)) = q := ⟨_, rfl⟩
    have hrf : ∀ W, Calls Tryz.prog 108 #[.string (bs (s.drop k))] W (RQ q W) := fun W => by
     have := rref_any (bs (s.drop k)) (s.drop (k + 1)) W (by rw [bs_size, List.length_drop]; have := HN.out; omega) (by rw [bs_list]; exact HD.out)
     rw [hq] at this
     exact this
    have hok := refQ_ok (s.drop (k + 1))
    rw [hq, List.length_drop] at hok
    obtain ⟨p, m⟩ := q
    have HRF := hid hrf
    unfold RQ at HRF
    simp only at HRF hok
    have HQ := hid hq
    clear hrf hq hc
    by_cases hm0 : m = 0
    ·subst hm0
     have HF : Hid (o = none) := hid (by rw [HA.out, HD.out, refs_bad _ (.inl (by rw [HQ.out]))]; rfl)
     go_wp2_with fail
     refine (HRF.out _).mono ?_
     rintro e w1 ⟨rfl, b1⟩
     go_wp2
     go_ret2
     exact RfO.bad HF.out (hbw.trans (b1.mono hbw.size))
    ·have hok2 : isPt p = true ∧ 3 ≤ m ∧ m ≤ s.length - (k + 1) + 1 ∧ 1 ≤ p := by
      rcases hok with h | h
      ·injection h with _ h; exact absurd h hm0
      ·exact h
     obtain ⟨p1, p2, p3, p4⟩ := hok2
     obtain ⟨q0, q1, q2⟩ := (isPt_iff p).1 p1
     have hm1 : ((m : Int) == 0) = false := by rw [beq_eq_false_iff_ne]; omega
     have hm2 : ¬ (m : Int) = 0 := by omega
     have HPO := hid (plain_one p p1)
     have hap : AllPt [p] := by intro z hz; rw [List.mem_singleton.1 hz]; exact p1
     obtain ⟨ep, hep⟩ : ∃ l, enc [p] = l := ⟨_, rfl⟩
     have HTX : Hid (∀ W : World, Calls Tryz.prog 48 #[.slice (some ⟨W.heap.size, 0, none⟩) 1 1] (W.alloc (.cells #[.int .i64 p] 3)) (fun e w' => e = .returned (.string (bs ep)) ∧ Below (W.alloc (.cells #[.int .i64 p] 3)).heap.size (W.alloc (.cells #[.int .i64 p] 3)) w')) := hid (fun (W : World) => by
      have h := text_any (some ⟨W.heap.size, 0, none⟩) 1 [p] (W.alloc (.cells #[.int .i64 p] 3)) (show 1 ≤ 10000000 by decide) hap (RI_one W p)
      rw [hep] at h
      exact h)
     have hel0 : ep.length ≤ 4 := by rw [← hep]; have := enc_length_le [p]; simpa using this
     have HPL : Hid (∀ W, Calls Tryz.prog 26 #[.string (bs ep)] W (fun e w' => e = .returned (.string (bs (enc ((pts ep).filter inXml)))) ∧ Below W.heap.size W w')) := hid (fun (W : World) => by
      have := rplain_any (bs ep) W (by rw [bs_size]; omega)
      rw [bs_list] at this
      exact this)
     rw [hep] at HPO
     clear hok
     cases hx : inXml p with
     | false =>
      have HF : Hid (o = none) := hid (by rw [HA.out, HD.out, refs_bad _ (.inr (by rw [HQ.out]; exact hx))]; rfl)
      have hpl := HPO.out.2 hx
      clear hx
      go_wp2_with fail
      refine (HRF.out _).mono ?_
      rintro e w1 ⟨rfl, b1⟩
      have hB1 := hbw.trans (b1.mono hbw.size)
      have hB2 := hB1.trans ((below_alloc8 w1 (.cells #[.int .i64 p] 3 (0, 0))).mono hB1.size)
      go_wp2_with fail
      refine (HTX.out _).mono ?_
      rintro e w2 ⟨rfl, b2⟩
      have hB3 := hB2.trans (b2.mono hB2.size)
      go_wp2_with fail
      refine (HPL.out _).mono ?_
      rintro e w3 ⟨rfl, b3⟩
      have hB4 := hB3.trans (b3.mono hB3.size)
      go_wp2
      go_ret2
      exact RfO.bad HF.out hB4
     | true =>
      have hpl : ¬ (bs (enc ((pts ep).filter inXml))).toList = [] := fun h => by have := HPO.out.1 h; rw [hx] at this; cases this
      have hpl2 : (bs (enc ((pts ep).filter inXml))).toList.isEmpty = false := by cases hq : (bs (enc ((pts ep).filter inXml))).toList with | nil => exact absurd hq hpl | cons => rfl
      have HV : Hid (o = (refsL (s.drop (k + m))).map ((acc ++ encodeRune p) ++ ·)) := hid (by
       rw [HA.out, HD.out, refs_good _ (by rw [HQ.out]; simp [hm0, hx]), HQ.out, List.drop_drop, show k + 1 + (m - 1) = k + m by omega]
       cases refsL (s.drop (k + m)) with
       | none => rfl
       | some y => simp [List.append_assoc])
      have hel := encodeRune_length p
      have hone := fun W => one_any p W q0 q1 q2
      unfold OneOut at hone
      have HRC := hid (runeCells_eq p)
      rw [HRC.out] at hone
      have HL := hid (Lib.byteCells_length (encodeRune p))
      obtain ⟨m2, hmm⟩ : ∃ m, (byteCells (encodeRune p)).length = m := ⟨_, rfl⟩
      have hm3 : (encodeRune p).length = m2 := by rw [← hmm, HL.out]
      rw [hmm] at hone
      obtain ⟨cs, hcs⟩ : ∃ cs, cs = (byteCells (encodeRune p)).toArray := ⟨_, rfl⟩
      rw [← hcs] at hone
      have HM := hid hm3
      have HCS := hid hcs
      have HONE := hid hone
      rw [hm3] at hel
      clear hx hmm hm3 hcs hone
      go_wp2_with fail
      refine (HRF.out _).mono ?_
      rintro e w1 ⟨rfl, b1⟩
      have hB1 := hbw.trans (b1.mono hbw.size)
      have hown1 := hown.below b1
      have hB2 := hB1.trans ((below_alloc8 w1 (.cells #[.int .i64 p] 3 (0, 0))).mono hB1.size)
      have hown2 := hown1.below (below_alloc8 w1 (.cells #[.int .i64 p] 3 (0, 0)))
      clear hown b1 hown1
      go_wp2_with fail
      refine (HTX.out _).mono ?_
      rintro e w2 ⟨rfl, b2⟩
      have hB3 := hB2.trans (b2.mono hB2.size)
      have hown3 := hown2.below b2
      clear hown2 b2
      go_wp2_with fail
      refine (HPL.out _).mono ?_
      rintro e w3 ⟨rfl, b3⟩
      have hB4 := hB3.trans (b3.mono hB3.size)
      have hown4 := hown3.below b3
      clear hown3 b3
      go_wp2_with fail
      refine (HONE.out _).mono ?_
      rintro e w4 ⟨rfl, rfl⟩
      have hz3 := hB4.size
      go_wp2_with (at_builtin; refine appB rfl _ _ rfl w3 w w.heap.size w.heap.size _ acc (encodeRune p) _ m2 HCS.out HM.out rfl (by exact hown4) rfl (by omega) (by omega) (Nat.le_refl _) hB4 ?_)
      intro v' w5 hown' hb'
      clear hown4 hB4 hB3 hB2 hB1 hpl hpl2
      have hkm : k + m ≤ n := by have := HN.out; omega
      go_wp2
      go_roundw
      case rel => exact ⟨k + m, acc ++ encodeRune p, hkm, by go_num, hown', hb', by rw [List.length_append, HM.out]; omega, HV⟩
      case measure => simp [RowKit.intOf]; omega
   ·obtain ⟨z, hz⟩ : ∃ z : Int, (c.toNat : Int) = z := ⟨_, rfl⟩
    have hix : ∀ W, (Instr.index 9 (.string S) (.int .i64 k)).run Tryz.prog W = .ok (.int .u8 z) W := HIX.out k hkl z (by rw [hc, hz])
    have hne : (z == 38) = false := by rw [← hz]; exact beqF c 38 h38
    have HV : Hid (o = (refsL (s.drop (k + 1))).map ((acc ++ [c]) ++ ·)) := hid (by
     rw [HA.out, HD.out, show c :: s.drop (k + 1) = [c] ++ s.drop (k + 1) from rfl, refs_pass _ [c] (by simpa using fun e => h38 e.symm)]
     cases refsL (s.drop (k + 1)) with
     | none => rfl
     | some y => simp)
    have HZ : Hid (#[Value.int .u8 z] = (byteCells [c]).toArray) := hid (by rw [← hz]; rfl)
    clear hc h38 hz
    go_wp2_with (at_builtin; refine appB rfl _ _ rfl wr w w.heap.size w.heap.size _ acc [c] _ 1 HZ.out rfl rfl (by exact hown) rfl (by omega) (by omega) (Nat.le_refl _) hbw ?_)
    intro v' w2 hown' hb'
    clear hown hbw
    go_wp2
    go_roundw
    case rel => exact ⟨k + 1, acc ++ [c], by omega, by go_num, hown', hb', by rw [List.length_append, List.length_singleton]; omega, HV⟩
    case measure => simp [RowKit.intOf]; omega
  ·obtain rfl : n = k := by omega
   have hdr : s.drop n = [] := List.drop_of_length_le (by rw [HN.out]; exact Nat.le_refl _)
   rw [hdr] at HA
   have HF : Hid (o = some acc) := hid (by have := HA.out; rw [refsL_nil] at this; rw [this]; simp)
   have hcv := own_conv8 hown
   clear hdr
   go_wp2
   go_ret2
   exact RfO.good HF.out hbw
end Go.Proofs.YtklcjimmbkpbdaaGreatDoor
