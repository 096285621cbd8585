/-
  Of the proof that disks answer every script as the document says: the parts VgE VgF VgG VgH. No conditions.
-/
import Derived.Test.YtbodkjifpmencaaGreatY20
namespace Go.Proofs.YtbodkjifpmencaaGreat
open Go.RowKit
open Go.Lib

theorem cells2_at {α : Type} (f g : α → Value) : ∀ (l : List α) (j : Nat) (h : j < l.length), (l.flatMap fun x => [f x, g x])[j * 2]? = some (f l[j]) ∧ (l.flatMap fun x => [f x, g x])[j * 2 + 1]? = some (g l[j])
  | c :: r, 0, _ => ⟨rfl, rfl⟩
  | c :: r, j + 1, h => by
    have ih := cells2_at f g r j (by simpa using h)
    rw [List.flatMap_cons]
    have x0 : (j + 1) * 2 = j * 2 + 2 := by omega
    rw [x0, List.getElem?_append_right (by simp), List.getElem?_append_right (by show 2 ≤ _; omega)]
    simp only [List.length_cons, List.length_nil, List.getElem_cons_succ]
    have y0 : j * 2 + 2 - (0 + 1 + 1) = j * 2 := by omega
    have y1 : j * 2 + 2 + 1 - (0 + 1 + 1) = j * 2 + 1 := by omega
    rw [y0, y1]
    exact ih
/-- A slice that reads as pairs. -/
def R2 {α : Type} (f g : α → Value) (w : World) (A : Option Addr) (l : List α) : Prop :=
  0 < l.length → ∃ b, A = some ⟨b, 0, none⟩ ∧ b < w.heap.size ∧ ∀ j (h : j < l.length), w.cell? ⟨b, 0 + j * 2, none⟩ = some (f l[j]) ∧ w.cell? ⟨b, 0 + j * 2 + 1, none⟩ = some (g l[j])
theorem r2_of_row {α : Type} {f g : α → Value} {w : World} {base n : Nat} {e : TypeId} {v : Value} {l : List α} (hn : l.length = n) (h : w.ownsRow base e 2 v n (l.flatMap fun x => [f x, g x])) : ∃ A c, v = .slice A n c ∧ (A.map (·.block)) = v.ownBlock ∧ R2 f g w A l := by
  subst hn
  have hlt := World.ownsRow.lt h
  rcases h.2 with ⟨rfl, hn⟩ | ⟨b, cap, cur, rfl, hb, hh, hc, hm, hsz, htake⟩
  · exact ⟨none, 0, by rw [hn], rfl, fun hz => absurd hz (by omega)⟩
  · refine ⟨some ⟨b, 0, none⟩, cap, rfl, rfl, fun _ => ⟨b, rfl, (hlt b rfl).2, fun j hj => ?_⟩⟩
    have hc2 := cells2_at f g l j hj
    have cell : ∀ i u, (l.flatMap fun x => [f x, g x])[i]? = some u → w.cell? ⟨b, i, none⟩ = some u := fun i u hu => by
      have := World.ownsRow.cells h (g := b) rfl i u hu
      rwa [Addr.add_mid, Nat.zero_add] at this
    rw [Nat.zero_add]
    exact ⟨cell _ _ hc2.1, cell _ _ hc2.2⟩
theorem R2.below {α : Type} {f g : α → Value} {w w' : World} {A : Option Addr} {l : List α} (h : R2 f g w A l) (hb : Below w.heap.size w w') : R2 f g w' A l := fun h0 => by
  obtain ⟨b, e, hlt, hc⟩ := h h0
  exact ⟨b, e, Nat.lt_of_lt_of_le hlt hb.size, fun j hj => ⟨(hb.cell hlt).trans (hc j hj).1, (hb.cell hlt).trans (hc j hj).2⟩⟩
def bNow (x : RB2) : Value := .string (bs x.now)
def bKept (x : RB2) : Value := .string (bs x.kept)
theorem RD.bodies {T : Nat → Prop} {X : Nat} {G : RLay} {r : R} {w : World} (H : RD T X G r w) : ∃ A c, G.bv = .slice A r.bodies.length c ∧ R2 bNow bKept w A r.bodies := by
  obtain ⟨A, c, h1, _, h2⟩ := r2_of_row (f := bNow) (g := bKept) rfl H.bods
  exact ⟨A, c, h1, h2⟩
theorem RD.names {T : Nat → Prop} {X : Nat} {G : RLay} {r : R} {w : World} (H : RD T X G r w) : ∃ A c, G.nv = .slice A r.names.length c ∧ RN w A r.names := rn_of_row H.nams
def usedK (r : R) (k : Nat) : Nat := ((r.names.take k).map fun x => (rbody r x.2).now.length).sum
theorem usedK_succ (r : R) (k : Nat) (h : k < r.names.length) : usedK r (k + 1) = usedK r k + (rbody r r.names[k].2).now.length := by
  unfold usedK
  rw [List.take_succ_eq_append_getElem h, List.map_append, List.sum_append]
  simp
theorem usedK_le (r : R) (k : Nat) : usedK r k ≤ usedR r := by
  unfold usedK usedR
  conv => rhs; rw [← List.take_append_drop k r.names]
  rw [List.map_append, List.sum_append]
  omega
theorem usedK_all (r : R) : usedK r r.names.length = usedR r := by unfold usedK usedR; rw [List.take_length]
theorem rbody_at' {r : R} {k : Nat} (h : k < r.bodies.length) : r.bodies[k] = rbody r k := by
  unfold rbody
  rw [List.getD_eq_getElem?_getD, List.getElem?_eq_getElem h]
  rfl
set_option maxRecDepth 100000 in
set_option maxHeartbeats 1000000 in
theorem rused_any {T : Nat → Prop} {X : Nat} {G : RLay} {r : R} {w : World} (H : RD T X G r w) (hN : r.names.length ≤ 10000000) (hi : ∀ x ∈ r.names, x.2 < r.bodies.length) (hu : usedR r ≤ 4611686018427387904) :
    Calls Tryz.prog 13 #[.pointer (some ⟨X, 0, none⟩)] w fun e w' => e = .returned (.int .i64 (usedR r)) ∧ Below w.heap.size w w' := by
  obtain ⟨Ab, cb, hb1, hb2⟩ := H.bodies
  obtain ⟨An, cn, hn1, hn2⟩ := H.names
  have c1 : w.cell? ⟨X, 1, none⟩ = some G.bv := H.disk.cell 1
  have c2 : w.cell? ⟨X, 2, none⟩ = some G.nv := H.disk.cell 2
  have hxl : X < w.heap.size := H.disk.lt
  rw [hb1] at c1
  rw [hn1] at c2
  obtain ⟨n, hn⟩ : ∃ n, r.names.length = n := ⟨_, rfl⟩
  obtain ⟨nb, hnb⟩ : ∃ n, r.bodies.length = n := ⟨_, rfl⟩
  rw [hn] at c2 hN
  rw [hnb] at c1
  have HB := Lib.hid hb2
  have HNm := Lib.hid hn2
  have HN := Lib.hid hn
  have HNB := Lib.hid hnb
  have HI := Lib.hid hi
  clear hb1 hb2 hn1 hn2 hn hnb hi H
  go_enter Tryz.func13, Tryz.ntmps13
  go_wp2
  go_loopw [3, 11] (fun s i wr => ∃ k u : Nat, k ≤ n ∧ s = .int .i64 u ∧ i = .int .i64 k ∧ Below w.heap.size w wr ∧ Hid (u = usedK r k)) (fun _ i _ => n - (RowKit.intOf i).toNat)
  case atStart => exact ⟨0, 0, Nat.zero_le _, rfl, rfl, Below.refl _ _, Lib.hid rfl⟩
  case round =>
    obtain ⟨k, u, hk, rfl, rfl, hb, hU⟩ := hrel
    by_cases hlt : k < n
    · have hkl : k < r.names.length := by rw [HN.out]; exact hlt
      obtain ⟨b, off, hAe, hbl, hc⟩ := (HNm.out.below hb) (by rw [HN.out]; omega)
      obtain ⟨x0, x1⟩ := hc k hkl
      have hm := HI.out _ (List.getElem_mem hkl)
      have hus := usedK_succ r k hkl
      obtain ⟨m, hme⟩ : ∃ m, r.names[k].2 = m := ⟨_, rfl⟩
      rw [hme] at x1 hm hus
      obtain ⟨b', hBe, hbl', hc'⟩ := (HB.out.below hb) (by omega)
      have y0 := (hc' m hm).1
      rw [rbody_at' hm] at y0
      obtain ⟨D, hD⟩ : ∃ D, rbody r m = D := ⟨_, rfl⟩
      rw [hD] at y0 hus
      change wr.cell? ⟨b', 0 + m * 2, none⟩ = some (.string (bs D.now)) at y0
      have hul := usedK_le r (k + 1)
      rw [hus, ← hU.out] at hul
      have hmb : m < nb := by rw [← HNB.out]; exact hm
      subst hAe hBe
      have d1 : wr.cell? ⟨X, 1, none⟩ = some (.slice (some ⟨b', 0, none⟩) nb cb) := (hb.cell (p := ⟨X, 1, none⟩) hxl).trans c1
      have hX' := hb.size
      have hsz : (bs D.now).size = D.now.length := bs_size _
      have HUS := Lib.hid hus
      clear hc hc' hus hD
      have hbw : Below wr.heap.size wr (wr.alloc (.cells #[.string (bs r.names[k].1), .int .i64 m] TN)) := (Below.refl _ _).alloc (Nat.le_refl _) _
      have d2 := (hbw.cell (p := ⟨X, 1, none⟩) (by show X < wr.heap.size; omega)).trans d1
      rw [Nat.zero_add] at y0
      have y1 := (hbw.cell (p := ⟨b', m * 2, none⟩) hbl').trans y0
      clear hbw
      have z1 : (wr.alloc (.cells #[.string (bs r.names[k].1), .int .i64 m] TN)).cell? ⟨wr.heap.size, 1, none⟩ = some (.int .i64 m) := (Blk.new (.cells #[.string (bs r.names[k].1), .int .i64 m] TN (0, 0)) wr).cell 1
      have HBA : Hid (Below w.heap.size w (wr.alloc (.cells #[.string (bs r.names[k].1), .int .i64 m] TN))) := Lib.hid (hb.alloc hX' _)
      go_wp2
      obtain ⟨wa, hwa⟩ : ∃ W, wr.alloc (.cells #[.string (bs r.names[k].1), .int .i64 m] TN) = W := ⟨_, rfl⟩
      rw [hwa] at d2 y1 z1 HBA ⊢
      clear d1 y0 hwa
      have i0 : (0 : Int) ≤ (m : Int) := by omega
      have i1 : (m : Int) < (nb : Int) := by omega
      have i2 : IntKind.i64.wrap ((u : Int) + ((bs D.now).size : Int)) = (u : Int) + ((bs D.now).size : Int) := IntWalk.i64_in _ (by omega)
      go_quiet (fail)
      go_wp2
      exact ⟨⟨k + 1, u + D.now.length, by omega, rfl, rfl, below_drewN HBA.out _, Lib.hid (by rw [HUS.out, ← hU.out])⟩, by show n - ((k : Int) + 1).toNat < n - (k : Int).toNat; omega⟩
    · obtain rfl : k = n := by omega
      go_wp2
      go_ret
      have e : u = usedR r := by rw [hU.out, ← HN.out, usedK_all]
      refine ⟨?_, hb⟩
      rw [e]
      rfl
def intR (o : Option Bs) : Int := match o with | none => 60 | some _ => 0
set_option maxRecDepth 100000 in
set_option maxHeartbeats 1000000 in
theorem rread_any {T : Nat → Prop} {X : Nat} {G : RLay} {r : R} {w : World} (H : RD T X G r w) (hN : r.names.length ≤ 10000000) (hi : ∀ x ∈ r.names, x.2 < r.bodies.length) (p : Bs) (hp : p.length ≤ 281474976710656) :
    Calls Tryz.prog 11 #[.pointer (some ⟨X, 0, none⟩), .string (bs p)] w fun e w' => e = .returned (.tuple #[.string (bs ((readR r p).getD [])), .int .i64 (intR (readR r p))]) ∧ Below w.heap.size w w' := by
  obtain ⟨Ab, cb, hb1, hb2⟩ := H.bodies
  obtain ⟨An, cn, hn1, hn2⟩ := H.names
  have c1 : w.cell? ⟨X, 1, none⟩ = some G.bv := H.disk.cell 1
  have c2 : w.cell? ⟨X, 2, none⟩ = some G.nv := H.disk.cell 2
  have hxl : X < w.heap.size := H.disk.lt
  rw [hb1] at c1
  rw [hn1] at c2
  have HB := Lib.hid hb2
  have HAT := Lib.hid (rat_any r.names An cn p r.names.length rfl w hn2 hN hp)
  obtain ⟨n, hn⟩ : ∃ n, r.names.length = n := ⟨_, rfl⟩
  rw [hn] at c2 HAT
  cases hl : look r.names p with
  | none =>
    rw [hl] at HAT
    have e : readR r p = none := by unfold readR; rw [hl]; rfl
    rw [e]
    clear hb2 hn2 H
    go_enter Tryz.func11, Tryz.ntmps11
    go_wp2_with (go_at_call 36; (with_reducible refine HAT.out.mono ?_); rintro e w1 ⟨rfl, b1⟩)
    go_ret2
    exact ⟨rfl, b1⟩
  | some m =>
    rw [hl, show intO (some m) = (m : Int) from rfl] at HAT
    have e : readR r p = some (rbody r m).now := by unfold readR; rw [hl]; rfl
    rw [e]
    have hm : m < r.bodies.length := hi _ (look_mem hl)
    obtain ⟨b', hBe, hbl', hc'⟩ := HB.out (by omega)
    have y0 := (hc' m hm).1
    rw [rbody_at' hm, Nat.zero_add] at y0
    obtain ⟨D, hD⟩ : ∃ D, rbody r m = D := ⟨_, rfl⟩
    rw [hD] at y0 ⊢
    change w.cell? ⟨b', m * 2, none⟩ = some (.string (bs D.now)) at y0
    obtain ⟨nb, hnb⟩ : ∃ n, r.bodies.length = n := ⟨_, rfl⟩
    rw [hnb] at c1 hm
    subst hBe
    clear hb2 hn2 H hc' HB hi hD
    go_enter Tryz.func11, Tryz.ntmps11
    go_wp2_with (go_at_call 36; (with_reducible refine HAT.out.mono ?_); rintro e w1 ⟨rfl, b1⟩; have d1 := (b1.cell (p := ⟨X, 1, none⟩) hxl).trans c1; have d2 := (b1.cell (p := ⟨b', m * 2, none⟩) hbl').trans y0)
    go_ret2
    exact ⟨rfl, b1⟩
end Go.Proofs.YtbodkjifpmencaaGreat
namespace Go.Proofs.YtbodkjifpmencaaGreat
open Go.RowKit
open Go.Lib

def gNew : RLay := ⟨.slice none 0 0, .slice none 0 0, .slice none 0 0, .slice none 0 0, []⟩
theorem rnew_any (room : Int) (w : World) : Calls Tryz.prog 8 #[.int .i64 room] w fun e w' => e = .returned (.pointer (some ⟨w.heap.size, 0, none⟩)) ∧ RD (fun b => b = w.heap.size) w.heap.size gNew (rNew room) w' ∧ Below w.heap.size w w' ∧ w'.heap.size = w.heap.size + 1 := by
  go_enter Tryz.func8, Tryz.ntmps8
  go_wp2
  go_ret
  refine ⟨rfl, ⟨Blk.new _ _, rfl, World.ownsRow_nil _ _ _ _, (fun b h => by cases h), World.ownsRow_nil _ _ _ _, (fun b h => by cases h), World.ownsRow_nil _ _ _ _, (fun b h => by cases h), rfl, World.ownsRow_nil _ _ _ _, (fun b h => by cases h), fun j hj => absurd hj (Nat.not_lt_zero _)⟩, (Below.refl _ _).alloc (Nat.le_refl _) _, by simp⟩
end Go.Proofs.YtbodkjifpmencaaGreat
namespace Go.Proofs.YtbodkjifpmencaaGreat
open Go.RowKit
open Go.Lib

/-- What was there and what is new since. -/
def More (T : Nat → Prop) (w w' : World) (b : Nat) : Prop := T b ∨ (w.heap.size ≤ b ∧ b < w'.heap.size)
theorem More.mono {T : Nat → Prop} {w w' w'' : World} (h : w'.heap.size ≤ w''.heap.size) {b : Nat} (hb : More T w w' b) : More T w w'' b := hb.elim .inl fun x => .inr ⟨x.1, Nat.lt_of_lt_of_le x.2 h⟩
theorem own_more {base e size n : Nat} {w' : World} {v : Value} {xs : List Value} (h : w'.ownsRow base e size v n xs) (T : Nat → Prop) (w : World) (hb : w.heap.size ≤ base) : ∀ b, v.ownBlock = some b → More T w w' b := fun b hb' => by
  have := World.ownsRow.lt h b hb'
  exact .inr ⟨by omega, this.2⟩
/-- The names have been made anew. -/
theorem RD.setNames {T : Nat → Prop} {X : Nat} {G : RLay} {r : R} {w w' : World} (H : RD T X G r w) (ho : Off (fun b => b = X) w w') (v : Value) (l : Nm) (hv : OwnN w' 0 v l) (hT : ∀ b, v.ownBlock = some b → T b) (hd : Blk X (.cells (rcells { G with nv := v } { r with names := l }) TDk (0, 0)) w') : RD T X { G with nv := v } { r with names := l } w' := by
  have kx : kindAt w X = some (some TDk) := H.disk.kind
  have ne : ∀ {e : TypeId} {n size : Nat} {v : Value} {xs : List Value}, w.ownsRow 0 e size v n xs → e ≠ TDk → ∀ b, v.ownBlock = some b → b ≠ X := fun h he b hb e => ne_kind (row_kind h hb) kx (by intro e2; exact he (Option.some.inj e2)) e
  refine ⟨hd, H.tx, own_off H.bods ho (ne H.bods (by decide)), H.tb, hv, hT, own_off H.kept ho (ne H.kept (by decide)), H.tk, H.chn, own_off H.chg ho (ne H.chg (by decide)), H.tc, fun j hj => ?_⟩
  obtain ⟨A, c, e, h⟩ := H.each j hj
  exact ⟨A, c, e, h.off ho (fun b _ hk => ne_kind hk kx (by decide))⟩
/-- A change has been put behind the others. -/
theorem RD.addChange {T : Nat → Prop} {X : Nat} {G : RLay} {r : R} {w w' : World} (H : RD T X G r w) (ho : Off (fun b => b = X ∨ G.cv.ownBlock = some b) w w') (v : Value) (d : Bs) (l : List (Bs × Option Nat)) (A : Option Addr) (c : Nat) (hA : RCs w T A l)
    (hv : w'.ownsRow 0 TCh 2 v (r.changes.length + 1) (cellsRC r.changes G.chs ++ [.string (bs d), .slice A l.length c])) (hT : ∀ b, v.ownBlock = some b → T b)
    (hd : Blk X (.cells (rcells { G with cv := v, chs := G.chs ++ [.slice A l.length c] } { r with changes := r.changes ++ [(d, l)] }) TDk (0, 0)) w') : RD T X { G with cv := v, chs := G.chs ++ [.slice A l.length c] } { r with changes := r.changes ++ [(d, l)] } w' := by
  have kx : kindAt w X = some (some TDk) := H.disk.kind
  have ne : ∀ {e : TypeId} {n size : Nat} {v : Value} {xs : List Value}, w.ownsRow 0 e size v n xs → e ≠ TDk → e ≠ TCh → ∀ b, v.ownBlock = some b → ¬ (b = X ∨ G.cv.ownBlock = some b) := fun h he he2 b hb hx => by
    rcases hx with hx | hx
    · exact ne_kind (row_kind h hb) kx (by intro e2; exact he (Option.some.inj e2)) hx
    · exact ne_kind (row_kind h hb) (row_kind H.chg hx) (by intro e2; exact he2 (Option.some.inj e2)) rfl
  have nk : ∀ b, kindAt w b = some (some TN) → ¬ (b = X ∨ G.cv.ownBlock = some b) := fun b hk hx => by
    rcases hx with hx | hx
    · exact ne_kind hk kx (by decide) hx
    · exact ne_kind hk (row_kind H.chg hx) (by decide) rfl
  refine ⟨hd, H.tx, own_off H.bods ho (ne H.bods (by decide) (by decide)), H.tb, own_off H.nams ho (ne H.nams (by decide) (by decide)), H.tn, own_off H.kept ho (ne H.kept (by decide) (by decide)), H.tk, ?_, ?_, hT, fun j hj => ?_⟩
  · show (G.chs ++ _).length = (r.changes ++ _).length
    rw [List.length_append, List.length_append, H.chn]; rfl
  · show w'.ownsRow 0 TCh 2 v (r.changes ++ [(d, l)]).length (cellsRC (r.changes ++ [(d, l)]) (G.chs ++ [.slice A l.length c]))
    have e1 : cellsRC (r.changes ++ [(d, l)]) (G.chs ++ [.slice A l.length c]) = cellsRC r.changes G.chs ++ [.string (bs d), .slice A l.length c] := by
      unfold cellsRC
      rw [List.zip_append H.chn.symm, List.flatMap_append]
      rfl
    rw [e1, List.length_append]
    exact hv
  · change j < (r.changes ++ [(d, l)]).length at hj
    rw [List.length_append, List.length_singleton] at hj
    by_cases hjl : j < r.changes.length
    · obtain ⟨A', c', e, h⟩ := H.each j hjl
      have e2 : (r.changes ++ [(d, l)])[j]'(by rw [List.length_append, List.length_singleton]; exact hj) = r.changes[j] := List.getElem_append_left hjl
      show ∃ A0 c0, (G.chs ++ _)[j]? = some (.slice A0 ((r.changes ++ [(d, l)])[j]'_).2.length c0) ∧ RCs w' T A0 ((r.changes ++ [(d, l)])[j]'_).2
      rw [e2]
      refine ⟨A', c', ?_, h.off ho (fun b _ hk => nk b hk)⟩
      rw [List.getElem?_append_left (by rw [H.chn]; exact hjl)]
      exact e
    · obtain rfl : j = r.changes.length := by omega
      have e2 : (r.changes ++ [(d, l)])[r.changes.length]'(by rw [List.length_append, List.length_singleton]; exact hj) = (d, l) := by simp
      show ∃ A0 c0, (G.chs ++ _)[r.changes.length]? = some (.slice A0 ((r.changes ++ [(d, l)])[r.changes.length]'_).2.length c0) ∧ RCs w' T A0 ((r.changes ++ [(d, l)])[r.changes.length]'_).2
      rw [e2]
      refine ⟨A, c, ?_, hA.off ho (fun b _ hk => nk b hk)⟩
      rw [← H.chn, List.getElem?_append_right (Nat.le_refl _), Nat.sub_self]
      rfl
end Go.Proofs.YtbodkjifpmencaaGreat
namespace Go.Proofs.YtbodkjifpmencaaGreat
open Go.RowKit
open Go.Lib

theorem foldW_len : ∀ (l : List (Bs × Option Nat)) (m : Nm), (l.foldl withR m).length ≤ m.length + l.length
  | [], m => Nat.le_refl _
  | x :: l, m => by
    rw [List.foldl_cons]
    have h := foldW_len l (withR m x)
    have h2 : (withR m x).length ≤ m.length + 1 := by
      unfold withR putN dropN
      cases x.2 with
      | none => exact Nat.le_succ_of_le (List.length_filter_le _ _)
      | some k =>
        show (List.filter _ m ++ [(x.1, k)]).length ≤ _
        rw [List.length_append]
        have := List.length_filter_le (fun y : Bs × Nat => decide (y.1 ≠ x.1)) m
        simp only [List.length_singleton]
        omega
    rw [List.length_cons]
    omega
theorem foldW_succ (l : List (Bs × Option Nat)) (m : Nm) (k : Nat) (h : k < l.length) : (l.take (k + 1)).foldl withR m = withR ((l.take k).foldl withR m) l[k] := foldl_take _ _ _ _ h
def chInv (T : Nat → Prop) (X : Nat) (G : RLay) (r : R) (w : World) (l : List (Bs × Option Nat)) (k : Nat) (wr : World) : Prop :=
  ∃ v, RD (More T w wr) X { G with nv := v } { r with names := (l.take k).foldl withR r.names } wr ∧ Off (fun b => b = X) w wr
theorem ch_step {T : Nat → Prop} {X : Nat} {G : RLay} {r : R} {w wr wa w5 : World} {l : List (Bs × Option Nat)} {k : Nat} (hk : k < l.length) (h : chInv T X G r w l k wr) (hx : X < w.heap.size) (ha : Off (fun _ => False) wr wa) (hb : Below wa.heap.size wa w5) (v : Value) (hv : OwnN w5 wa.heap.size v (withR ((l.take k).foldl withR r.names) l[k])) : chInv T X G r w l (k + 1) (w5.setCell ⟨X, 2, none⟩ v) := by
  obtain ⟨v0, hR, ho⟩ := h
  have o2 : Off (fun b => b = X) wr (w5.setCell ⟨X, 2, none⟩ v) := ((ha.mono (fun _ h => h.elim)).trans ((Off.of_below hb).mono (G := fun b => b = X) (fun _ h => h.elim)) (fun _ h => .inl h)).trans (off_set w5 X 2 v) (fun _ h => .inl h)
  have hs : w5.heap.size ≤ (w5.setCell ⟨X, 2, none⟩ v).heap.size := (off_set w5 X 2 v).size
  have hsz : wr.heap.size ≤ (w5.setCell ⟨X, 2, none⟩ v).heap.size := o2.size
  have hw5 : Blk X (.cells (rcells { G with nv := v0 } { r with names := (l.take k).foldl withR r.names }) TDk (0, 0)) w5 := (Off.of_below hb).blk (ha.blk hR.disk (fun h => h)) (fun h => h)
  have hd := hw5.set 2 v
  have hne : ∀ b, v.ownBlock = some b → b ≠ X := fun b hb' => by
    have h1 := World.ownsRow.lt hv b hb'
    have h2 := ha.size
    have h3 := ho.size
    omega
  have R1 := (hR.mono (T' := More T w (w5.setCell ⟨X, 2, none⟩ v)) (fun b hb => hb.mono hsz)).setNames o2 v (withR ((l.take k).foldl withR r.names) l[k]) (OwnN.base (show OwnN _ _ _ _ from own_off hv (off_set w5 X 2 v) hne) (Nat.zero_le _)) (fun b hb' => by
    have h1 := World.ownsRow.lt hv b hb'
    have h2 := ha.size
    have h3 := ho.size
    exact .inr ⟨by omega, Nat.lt_of_lt_of_le h1.2 hs⟩) hd
  refine ⟨v, ?_, ho.trans o2 (fun _ h => .inl h)⟩
  rw [foldW_succ l r.names k hk]
  exact R1
theorem ch_end {T : Nat → Prop} {X : Nat} {G : RLay} {r : R} {w wr w6 : World} {l : List (Bs × Option Nat)} {k : Nat} (hkl : l.length = k) (h : chInv T X G r w l k wr) (H : RD T X G r w) (hT : ∀ b, T b → b < w.heap.size) {A : Option Addr} {c : Nat} (hA : RCs w T A l) (d : Bs) (o : Obj) (v : Value)
    (hg6 : (wr.alloc o).grownBy w6 G.cv.ownBlock) (hown : w6.ownsRow 0 TCh 2 v (r.changes.length + 1) (cellsRC r.changes G.chs ++ [.string (bs d), .slice A k c])) (hloc : v.ownBlock = G.cv.ownBlock ∨ v.ownBlock = some (wr.alloc o).heap.size)
    (hcX : G.cv.ownBlock ≠ some X) :
    (∃ G', RD (More T w (w6.setCell ⟨X, 4, none⟩ v)) X G' (changeR r d l) (w6.setCell ⟨X, 4, none⟩ v)) ∧ Off (fun b => b = X ∨ G.cv.ownBlock = some b) w (w6.setCell ⟨X, 4, none⟩ v) := by
  subst hkl
  obtain ⟨v0, hR, ho⟩ := h
  rw [List.take_length] at hR
  have hba := (Below.refl wr.heap.size wr).alloc (Nat.le_refl _) o
  have o1 : Off (fun b => G.cv.ownBlock = some b) wr w6 := ((Off.of_below hba).mono (fun _ h => h.elim)).trans (Off.of_grown hg6) (fun _ h => .inl h)
  have o2 : Off (fun b => b = X ∨ G.cv.ownBlock = some b) wr (w6.setCell ⟨X, 4, none⟩ v) := (o1.mono (fun _ h => .inr h)).trans (off_set w6 X 4 v) (fun _ h => .inl (.inl h))
  have hs : w6.heap.size ≤ (w6.setCell ⟨X, 4, none⟩ v).heap.size := (off_set w6 X 4 v).size
  have hXA : X < w.heap.size := hT X H.tx
  have hvX : ∀ b, v.ownBlock = some b → b ≠ X := fun b hb e => by
    subst e
    rcases hloc with h | h
    · exact hcX (h.symm.trans hb)
    · rw [h] at hb
      have h1 := Option.some.inj hb
      have h2 := ho.size
      have h3 := hba.size
      omega
  have hrc : RCs wr (More T w (w6.setCell ⟨X, 4, none⟩ v)) A l := (hA.off ho (fun b _ hk => ne_kind hk H.disk.kind (show (some TN : Option TypeId) ≠ some TDk by decide))).mono (fun _ h => .inl h)
  have hd6 : Blk X (.cells (rcells { G with nv := v0 } { r with names := l.foldl withR r.names }) TDk (0, 0)) w6 := o1.blk hR.disk hcX
  refine ⟨⟨_, (hR.mono (T' := More T w (w6.setCell ⟨X, 4, none⟩ v)) (fun b hb => hb.mono o2.size)).addChange o2 v d l A c hrc (own_off hown (off_set w6 X 4 v) hvX) (fun b hb => ?_) (hd6.set 4 v)⟩, (ho.mono (fun _ h => .inl h)).trans o2 (fun _ h => .inl h)⟩
  have h1 := World.ownsRow.lt hown b hb
  rcases hloc with h | h
  · exact .inl (H.tc b (h.symm.trans hb))
  · rw [h] at hb
    have h2 := Option.some.inj hb
    have h3 := ho.size
    have h4 := hba.size
    exact .inr ⟨by omega, Nat.lt_of_lt_of_le h1.2 hs⟩
set_option maxRecDepth 100000 in
set_option maxHeartbeats 2000000 in
theorem rchange_any {T : Nat → Prop} {X : Nat} {G : RLay} {r : R} {w : World} (H : RD T X G r w) (hT : ∀ b, T b → b < w.heap.size) (d : Bs) (l : List (Bs × Option Nat)) (A : Option Addr) (c n : Nat) (hn : l.length = n) (hn2 : n ≤ 2) (hA : RCs w T A l) (hAX : ∀ b, aBlock A = some b → b ≠ X) (hN : r.names.length ≤ 900000) (hC : r.changes.length ≤ 900000) :
    Calls Tryz.prog 60 #[.pointer (some ⟨X, 0, none⟩), .string (bs d), .slice A n c] w fun e w' => e = .returned (.tuple #[]) ∧ (∃ G', RD (More T w w') X G' (changeR r d l) w') ∧ Off (fun b => b = X ∨ G.cv.ownBlock = some b) w w' := by
  obtain ⟨i0, hi, hz0, hz1, hz2⟩ := info_parts Tryz.infoChange
  have HX := Lib.hid (hT X H.tx)
  have HA := Lib.hid hA
  have HN := Lib.hid hn
  have HT := Lib.hid hT
  have HH := Lib.hid H
  clear H hA hn hT
  go_enter Tryz.func60, Tryz.ntmps60
  go_wp2
  go_loopw [10] (fun i wr => ∃ k, k ≤ n ∧ i = .int .i64 k ∧ Hid (chInv T X G r w l k wr)) (fun i _ => n - (RowKit.intOf i).toNat)
  case atStart => exact ⟨0, Nat.zero_le _, rfl, Lib.hid ⟨G.nv, HH.out.mono (fun _ h => .inl h), Off.refl _ _⟩⟩
  case round =>
    obtain ⟨k, hk, rfl, hI⟩ := hrel
    by_cases hlt : k < n
    · have hkl : k < l.length := by rw [HN.out]; exact hlt
      obtain ⟨v0, hR, ho⟩ := hI.out
      obtain ⟨b, off, hAe, _, hkind, hc⟩ := HA.out (by omega)
      have hbX : b ≠ X := hAX b (by rw [hAe]; rfl)
      obtain ⟨c0', c1'⟩ := hc k hkl
      have c0 := ho.cell c0' hbX
      have c1 := ho.cell c1' hbX
      obtain ⟨x, hx⟩ : ∃ x, l[k] = x := ⟨_, rfl⟩
      rw [hx] at c0 c1
      obtain ⟨F, o⟩ := x
      obtain ⟨An, cn, hn1, hn2'⟩ := hR.names
      obtain ⟨z, hz⟩ : ∃ z, intO o = z := ⟨_, rfl⟩
      have HZ := Lib.hid hz
      change wr.cell? ⟨b, off + k * 2 + 1, none⟩ = some (.int .i64 (intO o)) at c1
      change wr.cell? ⟨b, off + k * 2, none⟩ = some (.string (bs F)) at c0
      rw [hz] at c1
      have hxr : X < wr.heap.size := hR.disk.lt
      have x2r : wr.cell? ⟨X, 2, none⟩ = some v0 := hR.disk.cell 2
      have hfr : ∀ W, Off (fun _ => False) wr W → W.frozen? ⟨X, 2, none⟩ = false := fun W h => (h.blk hR.disk (fun h => h)).free 2
      change v0 = _ at hn1
      rw [hn1] at x2r
      obtain ⟨m, hm⟩ : ∃ m, ((l.take k).foldl withR r.names) = m := ⟨_, rfl⟩
      have hml : m.length ≤ r.names.length + 2 := by rw [← hm]; refine Nat.le_trans (foldW_len _ _) ?_; rw [List.length_take]; omega
      change RN wr An ((l.take k).foldl withR r.names) at hn2'
      rw [hm] at hn2'
      change wr.cell? ⟨X, 2, none⟩ = some (.slice An ((l.take k).foldl withR r.names).length cn) at x2r
      rw [hm] at x2r
      obtain ⟨nm, hnm⟩ : ∃ n, m.length = n := ⟨_, rfl⟩
      rw [hnm] at x2r hml
      obtain ⟨wa, hwa⟩ : ∃ W, wr.alloc (.cells #[.string (bs F), .int .i64 z] TN) = W := ⟨_, rfl⟩
      have hba : Below wr.heap.size wr wa := by rw [← hwa]; exact (Below.refl _ _).alloc (Nat.le_refl _) _
      have HOA : Hid (Off (fun _ => False) wr wa.drew) := Lib.hid ((Off.of_below hba).drew)
      have x2 : wa.cell? ⟨X, 2, none⟩ = some (.slice An nm cn) := (hba.cell (p := ⟨X, 2, none⟩) hxr).trans x2r
      have x2' : wa.drew.cell? ⟨X, 2, none⟩ = some (.slice An nm cn) := x2
      have z0 : wa.cell? ⟨wr.heap.size, 0, none⟩ = some (.string (bs F)) := by rw [← hwa]; exact (Blk.new (.cells #[.string (bs F), .int .i64 z] TN (0, 0)) wr).cell 0
      have z1 : wa.cell? ⟨wr.heap.size, 1, none⟩ = some (.int .i64 z) := by rw [← hwa]; exact (Blk.new (.cells #[.string (bs F), .int .i64 z] TN (0, 0)) wr).cell 1
      have hrn : RN wa An m := hn2'.below hba
      have HRN := Lib.hid (show RN wa.drew An m from hrn)
      have HFR := Lib.hid hfr
      have HNM := Lib.hid hnm
      have HM := Lib.hid hm
      have HXK := Lib.hid hx
      have HXR := Lib.hid hxr
      subst hAe
      clear hrn hc c0' c1' hkind hR ho hn1 hn2' hfr hnm hm hx x2r hxr hba hz
      have HWT : Hid (Calls Tryz.prog 76 #[.slice An nm cn, .agg #[.string (bs F), .int .i64 z]] wa.drew fun e w' => ∃ v, e = .returned v ∧ OwnN w' wa.drew.heap.size v (withR m (F, o)) ∧ Below wa.drew.heap.size wa.drew w') := Lib.hid (by rw [← HZ.out]; exact rwith_any m An cn F o nm HNM.out wa.drew HRN.out (by omega))
      have HXA : Hid (X < wa.drew.heap.size) := Lib.hid (Nat.lt_of_lt_of_le HXR.out HOA.out.size)
      go_upto_region 3 with fail
      go_region_with (first
        | (go_at_call 76; (with_reducible refine HWT.out.mono ?_); rintro e w5 ⟨v5, rfl, hv5, b5⟩
           obtain ⟨A5, n5, c5, rfl⟩ := own_slice hv5
           have y2 := (b5.cell (p := ⟨X, 2, none⟩) HXA.out).trans x2'
           have yf := HFR.out w5 (HOA.out.trans (Off.of_below b5) (fun _ h => .inl h))))
      all_goals go_wp2
      all_goals exact ⟨⟨k + 1, by omega, rfl, Lib.hid (ch_step hkl hI.out HX.out HOA.out b5 _ (by rw [HXK.out, HM.out]; exact hv5))⟩, by show n - ((k : Int) + 1).toNat < n - (k : Int).toNat; omega⟩
    · obtain rfl : k = n := by omega
      obtain ⟨v0, hR, ho⟩ := hI.out
      have htk : l.take k = l := List.take_of_length_le (by rw [HN.out]; exact Nat.le_refl _)
      rw [htk] at hR
      obtain ⟨Ac, nc, cc, hcv⟩ := own_slice hR.chg
      change G.cv = _ at hcv
      have hcr : wr.ownsRow 0 TCh 2 G.cv r.changes.length (cellsRC r.changes G.chs) := hR.chg
      have x4r : wr.cell? ⟨X, 4, none⟩ = some G.cv := hR.disk.cell 4
      have hcX : G.cv.ownBlock ≠ some X := fun e => ne_kind (row_kind hcr e) hR.disk.kind (show (some TCh : Option TypeId) ≠ some TDk by decide) rfl
      rw [hcv] at x4r
      have hba := (Below.refl wr.heap.size wr).alloc (Nat.le_refl _) (.cells #[.string (bs d), .slice A k c] TCh)
      have x4 := (hba.cell (p := ⟨X, 4, none⟩) hR.disk.lt).trans x4r
      have HCR := Lib.hid (own_off hcr (Off.of_below hba) (fun _ _ h => h))
      have HCX := Lib.hid hcX
      have HCV := Lib.hid hcv
      have HDK := Lib.hid ((Off.of_below hba).blk hR.disk (fun h => h))
      have hdk : ∀ w6, (wr.alloc (.cells #[.string (bs d), .slice A k c] TCh)).grownBy w6 (Value.slice Ac nc cc).ownBlock → Blk X (.cells (rcells { G with nv := v0 } { r with names := l.foldl withR r.names }) TDk (0, 0)) w6 := fun w6 g => HDK.out.grown g (by rw [← hcv]; exact fun e => hcX e.symm)
      have HD6 := Lib.hid hdk
      clear hR ho hcv hcr hcX hba hdk HDK htk
      go_wp2_with (at_builtin; refine wpList_append_own_at _ rfl _ _ 63 rfl 0 TCh i0 (.agg #[.string ⟨#[]⟩, .slice none 0 0]) 2 40 Tryz.underlying63 hi hz0 hz1 hz2 rfl (by decide) (.slice Ac nc cc) r.changes.length (cellsRC r.changes G.chs) rfl (by rw [← HCV.out]; exact HCR.out) ⟨wr.heap.size, 0, none⟩ 1 1 [.string (bs d), .slice A k c] rfl rfl (two_news wr _ _ TCh) (fun u hu => by simp at hu; rcases hu with rfl | rfl <;> rfl) (by unfold maxLen; omega) (by omega) (Nat.zero_le _) ?_; intro v' w6 hown' hg6 _ hloc; obtain ⟨A6, n6, c6, rfl⟩ := own_slice hown'; have a4 := (HD6.out w6 hg6).cell 4; have af := (HD6.out w6 hg6).free 4)
      go_end0
      exact ⟨rfl, ch_end HN.out hI.out HH.out HT.out HA.out d _ _ (by rw [HCV.out]; exact hg6) hown' (by rw [HCV.out]; exact hloc) HCX.out⟩
end Go.Proofs.YtbodkjifpmencaaGreat
