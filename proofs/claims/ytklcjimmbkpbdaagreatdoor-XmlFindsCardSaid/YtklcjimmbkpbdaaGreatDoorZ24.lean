/-
  A content's own builder (it lies within the content's block): copyCheck, Len, WriteString, String, Reset. Conditions: as each says.
-/
import Derived.Test.YtklcjimmbkpbdaaGreatDoorZ23
namespace Go.Proofs.YtklcjimmbkpbdaaGreatDoor
open Go.RowKit
open Go.Lib

abbrev TCo : TypeId := 139
abbrev CoB (kv pv bv : Value) : Obj := .cells #[kv, pv, bv] TCo (0, 0)
theorem shape_co {C : Nat} {kv pv bv : Value} {w : World} (h : Blk C (CoB kv pv bv) w) : w.shape? C = some (TCo, 3) := by
  have h' : w.heap[C]? = some (.cells #[kv, pv, bv] TCo (0, 0)) := h
  simp [World.shape?, h']
theorem coBuilder_info : ∃ j, Tryz.prog.info? 69 = some j ∧ j.size = 2 := by
  have h : (Tryz.prog.info? 69).map (·.size) = some 2 := by kernel_rfl
  obtain ⟨j, hj, hs⟩ := Option.map_eq_some_iff.1 h
  exact ⟨j, hj, hs⟩
theorem coBuilder_lies : liesAt Tryz.prog Tryz.prog.depth TCo (3 / Tryz.prog.cellsOf TCo) 1 69 1 = true := by kernel_rfl
set_option maxRecDepth 100000 in
theorem copyC_used {C : Nat} {kv bv : Value} {w : World} (h : Blk C (CoB kv (.pointer (some ⟨C, 1, none⟩)) bv) w) :
    Calls Tryz.prog 93 #[.pointer (some ⟨C, 1, none⟩)] w fun e w' => e = .returned (.tuple #[]) ∧ w' = w := by
  obtain ⟨j, hj, _⟩ := coBuilder_info
  have c1 : w.cell? ⟨C, 1, none⟩ = some (.pointer (some ⟨C, 1, none⟩)) := h.cell 1
  go_enter Tryz.func93, Tryz.ntmps93
  go_wp2
  rw [Lib.run_neq_ptr_same w _ Tryz.underlying67 hj]
  go_wp2
  go_end0
  exact ⟨rfl, rfl⟩
set_option maxRecDepth 100000 in
theorem copyC_fresh {C : Nat} {kv bv : Value} {w : World} (h : Blk C (CoB kv (.pointer none) bv) w) :
    Calls Tryz.prog 93 #[.pointer (some ⟨C, 1, none⟩)] w fun e w' => e = .returned (.tuple #[]) ∧ w' = w.setCell ⟨C, 1, none⟩ (.pointer (some ⟨C, 1, none⟩)) := by
  obtain ⟨j, hj, hjs⟩ := coBuilder_info
  have c1 : w.cell? ⟨C, 1, none⟩ = some (.pointer none) := h.cell 1
  have f1 := h.free 1
  have hsh := shape_co h
  go_enter Tryz.func93, Tryz.ntmps93
  go_wp2
  rw [Lib.run_to_unsafe w ⟨C, 1, none⟩ Tryz.underlying67 Tryz.underlying147 hj (by rw [hjs]; decide) hsh (show 1 < 3 by decide)]
  simp only [Result.andThen]
  rw [Oper.upon_value]
  go_wp2
  rw [run_callFunc_extern Tryz.func112 (by kernel_rfl) (by kernel_rfl) (by kernel_rfl) (e := Extern.AbiNoEscape.same) (by kernel_rfl)]
  rw [Lib.run_noEscape]
  simp only [Result.andThen]
  rw [Oper.upon_value]
  go_wp2
  rw [Lib.run_from_unsafe w ⟨C, 1, none⟩ Tryz.underlying147 Tryz.underlying67 hj hsh coBuilder_lies]
  simp only [Result.andThen]
  rw [Oper.upon_value]
  go_wp2
  go_end0
  exact ⟨rfl, rfl⟩
abbrev TBy : TypeId := 5
theorem Tryz.info8Y : (Tryz.prog.info? TBy).map (fun i => (i.zero, i.size, i.bytes)) = some (some (.int .u8 0), 1, 1) := by kernel_rfl
/-- What a content is that has read these kids, and behind them a text. -/
structure CSt (C : Nat) (T : Nat → Prop) (kv pv bv : Value) (ks : List XV) (cs : List Value) (t : Bt) (w : World) : Prop where
  blk : Blk C (CoB kv pv bv) w
  addr : pv = .pointer none ∨ pv = .pointer (some ⟨C, 1, none⟩)
  kids : w.ownsRow C TNo 5 kv ks.length cs
  read : XRs w T ks cs
  buf : w.ownsRow C TBy 1 bv t.length (Lib.byteCells t)
  apart : ∀ b, T b → C < b ∧ b < w.heap.size ∧ kv.ownBlock ≠ some b ∧ bv.ownBlock ≠ some b
theorem CSt.split {C : Nat} {T : Nat → Prop} {kv pv bv : Value} {ks : List XV} {cs : List Value} {t : Bt} {w : World} (h : CSt C T kv pv bv ks cs t w) {b : Nat} (hb : kv.ownBlock = some b) : bv.ownBlock ≠ some b ∧ C ≠ b :=
  ⟨own_apart h.kids h.buf (by decide) hb, fun e => own_apartB h.kids h.blk (by decide) (by rw [hb, e])⟩
/-- Other blocks turn. -/
theorem CSt.off {C : Nat} {T F : Nat → Prop} {kv pv bv : Value} {ks : List XV} {cs : List Value} {t : Bt} {w w' : World} (h : CSt C T kv pv bv ks cs t w) (ho : Off F w w') (hF : ∀ b, F b → b < C) : CSt C T kv pv bv ks cs t w' :=
  ⟨ho.blk h.blk (fun hb => Nat.lt_irrefl _ (hF C hb)), h.addr, own_off h.kids ho (fun b hb e => by have := (World.ownsRow.lt h.kids b hb).1; have := hF b e; omega),
    XRs.off ho (fun b hb e => by have := (h.apart b hb).1; have := hF b e; omega) _ _ h.read,
    own_off h.buf ho (fun b hb e => by have := (World.ownsRow.lt h.buf b hb).1; have := hF b e; omega),
    fun b hb => by have := h.apart b hb; exact ⟨this.1, Nat.lt_of_lt_of_le this.2.1 ho.size, this.2.2⟩⟩
/-- The builder notes its own place. -/
theorem CSt.used {C : Nat} {T : Nat → Prop} {kv pv bv : Value} {ks : List XV} {cs : List Value} {t : Bt} {w : World} (h : CSt C T kv pv bv ks cs t w) (pv' : Value) (hp : pv' = .pointer none ∨ pv' = .pointer (some ⟨C, 1, none⟩)) : CSt C T kv pv' bv ks cs t (w.setCell ⟨C, 1, none⟩ pv') := by
  have o := off_set8 w C 1 pv'
  refine ⟨by have := h.blk.set 1 pv'; simpa using this, hp, own_off h.kids o (fun b hb e => own_apartB h.kids h.blk (by decide) (by rw [hb, e])), XRs.off o (fun b hb e => by have := (h.apart b hb).1; omega) _ _ h.read,
    own_off h.buf o (fun b hb e => own_apartB h.buf h.blk (by decide) (by rw [hb, e])), fun b hb => by have := h.apart b hb; exact ⟨this.1, Nat.lt_of_lt_of_le this.2.1 o.size, this.2.2⟩⟩
theorem copyC_any {C : Nat} {T : Nat → Prop} {kv pv bv : Value} {ks : List XV} {cs : List Value} {t : Bt} {w : World} (h : CSt C T kv pv bv ks cs t w) :
    Calls Tryz.prog 93 #[.pointer (some ⟨C, 1, none⟩)] w fun e w' => e = .returned (.tuple #[]) ∧ CSt C T kv (.pointer (some ⟨C, 1, none⟩)) bv ks cs t w' ∧ Off (fun b => b = C) w w' := by
  rcases h.addr with e | e
  · subst e
    refine (copyC_fresh h.blk).mono ?_
    rintro e w' ⟨rfl, rfl⟩
    exact ⟨rfl, h.used _ (.inr rfl), off_set8 _ _ _ _⟩
  · subst e
    refine (copyC_used h.blk).mono ?_
    rintro e w' ⟨rfl, rfl⟩
    exact ⟨rfl, h, Off.refl _ _⟩
theorem strCells_bs (s : Bt) : Lib.strCells (bs s) = Lib.byteCells s := by
  unfold Lib.strCells
  rw [bs_list]
  rfl
/-- Where the bytes of a text lie behind an append: where they lay, or anew. -/
theorem app_str_new {w w' : World} {B n : Nat} {v v' : Value} {xs : List Value} (hown : w.ownsRow B TBy 1 v n xs) (s : ByteArray) (h9 : n + s.size ≤ 1000000000) (ty : TypeId)
    (hr : (Builtin.append_ #[22, 9] ty #[v, .string s]).run Tryz.prog w = .ok v' w') : ∀ b, v'.ownBlock = some b → v.ownBlock = some b ∨ w.heap.size ≤ b := by
  obtain ⟨i0, hi, hz0, hz1, hz2⟩ := info_parts Tryz.info8Y
  intro b hb
  rcases hown.2 with ⟨rfl, rfl⟩ | ⟨g, cap, cur, rfl, _, hg, hnc, hcm, hcs, htake⟩
  · have hx : xs = [] := List.eq_nil_of_length_eq_zero (by rw [hown.1])
    subst hx
    obtain ⟨v2, w2, hr2, h2, _, _⟩ := Lib.run_append_own_string (P := Tryz.prog) w w.heap.size 22 9 ty TBy i0 Tryz.underlying22 Tryz.underlying9 hi hz0 hz1 hz2 _ 0 [] (World.ownsRow_nil w w.heap.size TBy 1) s (by unfold maxLen; omega) (by omega) (Nat.le_refl _)
    rw [hr] at hr2
    injection hr2 with e1 _
    subst e1
    exact .inr (World.ownsRow.lt h2 b hb).1
  · by_cases hroom : n + s.size ≤ cap
    · have hr2 := Lib.run_append_room_string (P := Tryz.prog) w 22 9 ty TBy i0 Tryz.underlying22 Tryz.underlying9 hi hz1 g n cap cur hg s hroom (by omega)
      rw [hr] at hr2
      injection hr2 with e1 _
      subst e1
      exact .inl hb
    · have holds : ∀ j u, xs[j]? = some u → w.cell? ((⟨g, 0, none⟩ : Addr).add j) = some u := World.ownsRow.cells hown (g := g) rfl
      have hr2 := Lib.run_append_grow_string (P := Tryz.prog) w 22 9 ty TBy i0 (.int .u8 0) Tryz.underlying22 Tryz.underlying9 hi hz0 ⟨g, 0, none⟩ n cap xs (by rw [hz1]; exact hown.1) holds s (by omega) (by omega) (by rw [hz2]; exact growslice_fits (by omega) (by omega))
      rw [hr] at hr2
      injection hr2 with e1 _
      subst e1
      right
      have := Option.some.inj hb
      simp at this
      omega
theorem appStr8 {ops : Array Oper} {rest : List Oper} {o : Oper} {a : Act} {Q : Exit → Act → World → Prop} (hgd : o.guard = none) (sl x : Operand)
    (ho : o.op = .call { callee := .builtin .append, args := #[sl, x], argTypes := #[22, 9] }) (w : World) (B : Nat) (v : Value) (t s : Bt) (hs : a.eval sl = v) (hown : w.ownsRow B TBy 1 v t.length (Lib.byteCells t)) (hx : a.eval x = .string (bs s))
    (h9 : t.length + s.length ≤ 1000000) (hB : B ≤ w.heap.size)
    (h : ∀ v' w', w'.ownsRow B TBy 1 v' (t ++ s).length (Lib.byteCells (t ++ s)) → Off (fun b => v.ownBlock = some b) w w' → (∀ b, v'.ownBlock = some b → v.ownBlock = some b ∨ w.heap.size ≤ b) → wpList Tryz.prog ops Q rest (a.put o.dst v') w') : wpList Tryz.prog ops Q (o :: rest) a w := by
  obtain ⟨i0, hi, hz0, hz1, hz2⟩ := info_parts Tryz.info8Y
  have hss : (bs s).size = s.length := by rw [size_list, bs_list]
  refine wpList_plain hgd fun K hK => ?_
  obtain ⟨v', w', hr, h2, h3, _⟩ := Lib.run_append_own_string (P := Tryz.prog) w B 22 9 o.type TBy i0 Tryz.underlying22 Tryz.underlying9 hi hz0 hz1 hz2 v _ _ hown (bs s) (by unfold maxLen; omega) (by omega) hB
  unfold Oper.wp execOp
  simp only [ho, resolve, invoke, builtin, Sem.run_bind, Sem.run_pure, Result.andThen_ok, List.map_toArray, List.map_cons, List.map_nil, hs, hx, hr]
  refine hK _ _ (h v' w' ?_ (Off.of_grown h3) (app_str_new hown (bs s) (by omega) _ hr))
  rw [strCells_bs, ← byteCells_append, hss, ← List.length_append] at h2
  exact h2
set_option maxRecDepth 100000 in
theorem writeC_any {C : Nat} {T : Nat → Prop} {kv pv bv : Value} {ks : List XV} {cs : List Value} {t : Bt} {w : World} (h : CSt C T kv pv bv ks cs t w) (s : Bt) (hl : t.length + s.length ≤ 1000000) :
    Calls Tryz.prog 66 #[.pointer (some ⟨C, 1, none⟩), .string (bs s)] w fun e w' => (∃ n, e = .returned (.tuple #[.int .i64 n, .nilIface])) ∧ (∃ pv' bv', CSt C T kv pv' bv' ks cs (t ++ s) w') ∧ Off (fun b => C ≤ b) w w' := by
  have H := Lib.hid (copyC_any h)
  clear h
  go_enter Tryz.func66, Tryz.ntmps66
  go_wp2_with (go_at_call 93; (with_reducible refine H.out.mono ?_))
  rintro e w1 ⟨rfl, h1, o1⟩
  have c2 : w1.cell? ⟨C, 2, none⟩ = some bv := h1.blk.cell 2
  have HO1 := Lib.hid o1
  have H1 := Lib.hid h1
  clear h1 o1
  have h1 := H1.out
  have hCw : C ≤ w1.heap.size := Nat.le_of_lt h1.blk.lt
  go_wp2_with (at_builtin; go_loud (refine appStr8 rfl _ _ rfl _ C bv t s rfl h1.buf rfl hl hCw ?_))
  intro v' w2 hown' o2 hnew
  rw [← List.length_append] at hown'
  have hge : ∀ b, bv.ownBlock = some b → C < b := fun b hb => by
    have h2 := (World.ownsRow.lt h1.buf b hb).1
    have h3 : b ≠ C := fun e => own_apartB h1.buf h1.blk (by decide) (by rw [hb, e])
    omega
  have hblk := o2.blk h1.blk (fun hb => by have := hge C hb; omega)
  have f2 := hblk.free 2
  have d2 : w2.cell? ⟨C, 2, none⟩ = some bv := hblk.cell 2
  have H2 : Hid (CSt C T kv (.pointer (some ⟨C, 1, none⟩)) v' ks cs (t ++ s) (w2.setCell ⟨C, 2, none⟩ v')) := Lib.hid (by
    have o3 := off_set8 w2 C 2 v'
    refine ⟨by have := hblk.set 2 v'; simpa using this, .inr rfl, ?_, ?_, ?_, ?_⟩
    · exact own_off (own_off h1.kids o2 (fun b hb e => own_apart h1.kids h1.buf (by decide) hb e)) o3 (fun b hb e => own_apartB h1.kids h1.blk (by decide) (by rw [hb, e]))
    · exact XRs.off o3 (fun b hb e => by have := (h1.apart b hb).1; omega) _ _ (XRs.off o2 (fun b hb e => (h1.apart b hb).2.2.2 e) _ _ h1.read)
    · exact own_off hown' o3 (fun b hb e => by
        rcases hnew b hb with h | h
        · have := hge b h; omega
        · have := h1.blk.lt; omega)
    · intro b hb
      have h2 := h1.apart b hb
      refine ⟨h2.1, Nat.lt_of_lt_of_le h2.2.1 (Nat.le_trans o2.size o3.size), h2.2.2.1, fun e => ?_⟩
      rcases hnew b e with h | h
      · exact h2.2.2.2 h
      · omega)
  have HO2 : Hid (Off (fun b => C ≤ b) w (w2.setCell ⟨C, 2, none⟩ v')) := Lib.hid (((HO1.out.mono (fun b h => Nat.le_of_eq h.symm)).then (o2.mono (fun b h => Nat.le_of_lt (hge b h)))).then ((off_set8 w2 C 2 v').mono (fun b h => Nat.le_of_eq h.symm)))
  obtain ⟨A, n', cap, rfl⟩ : ∃ ao n' cap, v' = .slice ao n' cap := by
    rcases hown'.2 with ⟨hv, _⟩ | ⟨g, cap, cur, hv, _⟩
    · exact ⟨_, _, _, hv⟩
    · exact ⟨_, _, _, hv⟩
  clear hown' o2 hge hblk hnew h1
  go_wp2
  go_ret2
  exact ⟨⟨_, rfl⟩, ⟨_, _, H2.out⟩, HO2.out⟩
theorem CSt.bv {C : Nat} {T : Nat → Prop} {kv pv bv : Value} {ks : List XV} {cs : List Value} {t : Bt} {w : World} (h : CSt C T kv pv bv ks cs t w) : ∃ A c, bv = .slice A t.length c := by
  rcases h.buf.2 with ⟨hv, h0⟩ | ⟨g, cap, cur, hv, _⟩
  · exact ⟨none, 0, by rw [hv, h0]⟩
  · exact ⟨_, _, hv⟩
theorem CSt.kv {C : Nat} {T : Nat → Prop} {kv pv bv : Value} {ks : List XV} {cs : List Value} {t : Bt} {w : World} (h : CSt C T kv pv bv ks cs t w) : ∃ A c, kv = .slice A ks.length c := by
  rcases h.kids.2 with ⟨hv, h0⟩ | ⟨g, cap, cur, hv, _⟩
  · exact ⟨none, 0, by rw [hv, h0]⟩
  · exact ⟨_, _, hv⟩
set_option maxRecDepth 100000 in
theorem lenC_any {C : Nat} {T : Nat → Prop} {kv pv bv : Value} {ks : List XV} {cs : List Value} {t : Bt} {w : World} (h : CSt C T kv pv bv ks cs t w) :
    Calls Tryz.prog 125 #[.pointer (some ⟨C, 1, none⟩)] w fun e w' => e = .returned (.int .i64 t.length) ∧ w = w' := by
  obtain ⟨A, c, rfl⟩ := h.bv
  have c2 : w.cell? ⟨C, 2, none⟩ = some (.slice A t.length c) := h.blk.cell 2
  clear h
  go_enter Tryz.func125, Tryz.ntmps125
  go_wp2
  go_ret
  exact ⟨rfl, rfl⟩
set_option maxRecDepth 100000 in
theorem strC_any {C : Nat} {T : Nat → Prop} {kv pv bv : Value} {ks : List XV} {cs : List Value} {t : Bt} {w : World} (h : CSt C T kv pv bv ks cs t w) (ht : t ≠ []) :
    Calls Tryz.prog 38 #[.pointer (some ⟨C, 1, none⟩)] w fun e w' => e = .returned (.string (bs t)) ∧ w'.heap.size = w.heap.size ∧ Off (fun b => bv.ownBlock = some b) w w' := by
  have hl0 : t.length ≠ 0 := by simpa using ht
  rcases h.buf.2 with ⟨_, hz⟩ | ⟨g, cap, cur, rfl, hbg, hg, hnc, hcm, hcs, htake⟩
  · exact absurd hz hl0
  have c2 : w.drew.cell? ⟨C, 2, none⟩ = some (.slice (some ⟨g, 0, none⟩) t.length cap) := by
    have : Blk C (CoB kv pv (.slice (some ⟨g, 0, none⟩) t.length cap)) w.drew := h.blk
    exact this.cell 2
  have hSD : (Builtin.unsafeSliceData_ #[22] 102 #[.slice (some ⟨g, 0, none⟩) t.length cap]).run Tryz.prog w.drew = .ok (.pointer (some ⟨g, 0, none⟩)) w.drew :=
    Lib.run_unsafeSliceData_row _ _ _ _ _ _ (by omega)
  have hUS : (Builtin.unsafeString_ #[102, 3] 9 #[.pointer (some ⟨g, 0, none⟩), .int .i64 t.length]).run Tryz.prog w.drew = .ok (.string (bs t)) (w.drew.freeze ⟨g, 0, none⟩ t.length) := by
    refine Lib.run_unsafeString_row w.drew 102 3 9 5 Tryz.underlying102 (by kernel_rfl) g cur.size (by have hg' : w.drew.heap[g]? = some (.cells cur TBy (0, 0)) := hg; simp [World.shape?, hg']) t ht (by omega) (by unfold maxLen at hcm; omega) ?_
    intro j x hx
    exact World.ownsRow.cells h.buf (g := g) rfl j (.int .u8 x.toNat) (by simp [Lib.byteCells, hx])
  have HO : Hid (Off (fun b => Value.ownBlock (.slice (some ⟨g, 0, none⟩) t.length cap) = some b) w (w.drew.freeze ⟨g, 0, none⟩ t.length)) := Lib.hid (by
    have hb := Lib.below_freeze (Below.drew (Below.refl g w)) (p := ⟨g, 0, none⟩) (Nat.le_refl g) t.length
    refine ⟨hb.os, hb.tape, hb.output, hb.size, fun k _ hF => ?_⟩
    have hkg : ¬ g = k := fun e => hF (by rw [Value.ownBlock, e])
    unfold World.freeze
    rw [if_neg hl0]
    show (w.drew.heap.modify g _)[k]? = _
    rw [Array.getElem?_modify, if_neg hkg]
    rfl)
  have HZ : Hid ((w.drew.freeze ⟨g, 0, none⟩ t.length).heap.size = w.heap.size) := Lib.hid (by
    unfold World.freeze
    rw [if_neg hl0]
    show (w.drew.heap.modify g _).size = _
    rw [Array.size_modify]
    rfl)
  clear h hbg hg hnc hcm hcs htake hl0 ht
  go_enter Tryz.func38, Tryz.ntmps38
  go_wp2
  go_region
  all_goals (go_wp2; go_ret; exact ⟨rfl, HZ.out, HO.out⟩)
set_option maxRecDepth 100000 in
theorem resetC_any {C : Nat} {kv pv bv : Value} {w : World} (h : Blk C (CoB kv pv bv) w) :
    Calls Tryz.prog 126 #[.pointer (some ⟨C, 1, none⟩)] w fun e w' => e = .returned (.tuple #[]) ∧ Blk C (CoB kv (.pointer none) (.slice none 0 0)) w' ∧ Off (fun b => b = C) w w' := by
  have HB : Hid (Blk C (CoB kv (.pointer none) (.slice none 0 0)) ((w.setCell ⟨C, 1, none⟩ (.pointer none)).setCell ⟨C, 2, none⟩ (.slice none 0 0))) := Lib.hid (by
    have := (h.set 1 (.pointer none)).set 2 (.slice none 0 0)
    simpa using this)
  have f1 := h.free 1
  have f2 := h.free 2
  have c1 : w.cell? ⟨C, 1, none⟩ = some pv := h.cell 1
  have c2 : w.cell? ⟨C, 2, none⟩ = some bv := h.cell 2
  clear h
  go_enter Tryz.func126, Tryz.ntmps126
  go_wp2
  go_end0
  exact ⟨rfl, HB.out, (off_set8 _ _ _ _).then (off_set8 _ _ _ _)⟩
end Go.Proofs.YtklcjimmbkpbdaaGreatDoor
