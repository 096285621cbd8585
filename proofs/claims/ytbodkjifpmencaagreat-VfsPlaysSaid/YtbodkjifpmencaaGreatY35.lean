/-
  Of the proof that disks answer every script as the document says: the parts VZI VhH. No conditions.
-/
import Derived.Test.YtbodkjifpmencaaGreatY13
import Derived.Test.YtbodkjifpmencaaGreatY34
import Derived.Test.YtbodkjifpmencaaGreatY18
import Derived.Deep.CutBlock
import Derived.Deep.DeepCutAuto
import Derived.Deep.RegionHeld3
namespace Go.Proofs.YtbodkjifpmencaaGreat
open Go.RowKit
open Go.Lib

set_option maxRecDepth 100000 in
theorem used_nil (w : World) : Calls Tryz.prog 12 #[.pointer none] w fun e w' => e = .returned (.int .i64 0) ∧ w = w' := by
  go_enter Tryz.func12, Tryz.ntmps12
  go_wp2
  go_ret
  exact ⟨rfl, rfl⟩
set_option maxRecDepth 100000 in
theorem list_nil (s : ByteArray) (w : World) : Calls Tryz.prog 16 #[.pointer none, .string s] w fun e w' => e = .returned (.slice none 0 0) ∧ w = w' := by
  go_enter Tryz.func16, Tryz.ntmps16
  go_wp2
  go_ret
  exact ⟨rfl, rfl⟩
set_option maxRecDepth 100000 in
theorem write_nil (s : ByteArray) (hs : s.size ≤ 281474976710656) (A : Option Addr) (n c : Nat) (w : World) : Calls Tryz.prog 18 #[.pointer none, .string s, .slice A n c] w fun e w' => e = .returned (.int .i64 1) ∧ Below w.heap.size w w' := by
  go_enter Tryz.func18, Tryz.ntmps18
  go_wp2_with (first
    | (go_at_call 43; (with_reducible refine (right_any s _ hs).mono ?_); rintro e w1 ⟨rfl, b1⟩)
    | (go_at_call 42; (with_reducible refine (begin_nil _ _).mono ?_); rintro e w2 ⟨rfl, rfl⟩))
  go_ret
  exact ⟨rfl, b1⟩
set_option maxRecDepth 100000 in
theorem syncDir_nil (w : World) : Calls Tryz.prog 20 #[.pointer none, .string ⟨#[]⟩] w fun e w' => e = .returned (.int .i64 1) ∧ Below w.heap.size w w' := by
  go_enter Tryz.func20, Tryz.ntmps20
  go_wp2_with (first
    | (go_at_call 42; (with_reducible refine (begin_nil _ _).mono ?_); rintro e w2 ⟨rfl, rfl⟩))
  go_ret
  exact ⟨rfl, Below.refl _ _⟩
/-- try of an act without anything but a path, on a nil disk. -/
theorem try_nil (p : ByteArray) (hp : p.size ≤ 281474976710656) (w : World) : Calls Tryz.prog 23 #[.pointer none, .agg #[.int .i64 0, .string p, .string ⟨#[]⟩, .slice none 0 0, .int .i64 0, .slice none 0 0]] w fun e w' => e = .returned (.int .i64 1) ∧ Below w.heap.size w w' := by
  have hk8 : (IntKind.u64.wrap 0).tmod 8 = 0 := by decide
  go_enter Tryz.func23, Tryz.ntmps23
  go_wp2_with (go_at_call 18; (with_reducible refine (write_nil p hp none 0 0 _).mono ?_); rintro x w1 ⟨rfl, b1⟩)
  go_ret
  exact ⟨rfl, ((Below.refl _ _).alloc (Nat.le_refl _) _).trans (b1.mono (by simp))⟩
end Go.Proofs.YtbodkjifpmencaaGreat
namespace Go.Proofs.YtbodkjifpmencaaGreat
open Go.RowKit
open Go.Lib

theorem Both.grow {S : Nat → Prop} {w0 W W' : World} {D X : Nat} {q : Q} {r : R} (H : Both S w0 D X q r W) (hb : Below W.heap.size W W') : Both (fun b => S b ∨ (W.heap.size ≤ b ∧ b < W'.heap.size)) W' D X q r W' := by
  obtain ⟨T, U, M, ⟨G, hG⟩, hU⟩ := H
  have hs := hb.size
  have hlt := M.2.2.1
  refine ⟨T, U, ⟨(M.1.grow hb).less (fun b h => ?_), Off.refl _ _, fun b h => ?_, fun b h hS => ?_⟩, ⟨G, hG.off (Off.of_below hb) (fun _ _ h => h)⟩, hU⟩
  · rcases h with (h | h) | h
    · exact .inl (.inl h)
    · exact .inr h
    · exact .inl (.inr h)
  · rcases h with (h | h) | h
    · exact Nat.lt_of_lt_of_le (hlt b (.inl h)) hs
    · exact h.2
    · exact Nat.lt_of_lt_of_le (hlt b (.inr h)) hs
  · rcases hS with h2 | h2
    · exact M.2.2.2 b h h2
    · have := hlt b (.inr h)
      omega
theorem Both.back {S S' : Nat → Prop} {w0 W W' : World} {D X : Nat} {q q' : Q} {r r' : R} (H : Both S w0 D X q r W) (H' : Both S' W D X q' r' W') (hS : ∀ b, S b → S' b) : Both S w0 D X q' r' W' := by
  obtain ⟨_, _, M, _, _⟩ := H
  obtain ⟨T, U, M', hX, hU⟩ := H'
  exact ⟨T, U, ⟨M'.1.less (fun b h => h.imp (hS b) id), M.2.1.trans M'.2.1 (fun b hb => .inl (fun h => hb (hS b h))), fun b h => M'.2.2.1 b (h.imp (hS b) id), fun b h hs => M'.2.2.2 b h (hS b hs)⟩, hX, hU⟩
theorem Both.off {S : Nat → Prop} {w0 W : World} {D X : Nat} {q : Q} {r : R} (H : Both S w0 D X q r W) : Off (fun b => ¬ S b) w0 W := by
  obtain ⟨_, _, M, _, _⟩ := H
  exact M.2.1
theorem Both.lt {S : Nat → Prop} {w0 W : World} {D X : Nat} {q : Q} {r : R} (H : Both S w0 D X q r W) : ∀ b, S b → b < W.heap.size := by
  obtain ⟨_, _, M, _, _⟩ := H
  exact fun b h => M.2.2.1 b (.inl h)
/-- Both disks, as they are at a world, in a form that later worlds keep. -/
theorem Both.seen {S : Nat → Prop} {w0 W : World} {D X : Nat} {q : Q} {r : R} (H : Both S w0 D X q r W) : ∃ F : Nat → Prop, (∀ b, F b → b < W.heap.size) ∧ ∀ V, Below W.heap.size W V → MineS F W D q V ∧ ∃ U G, RD U X G r V := by
  obtain ⟨T, U, M, ⟨G, hG⟩, _⟩ := H
  exact ⟨_, M.2.2.1, fun V hb => ⟨M.1.below M.2.2.1 hb, U, G, hG.off (Off.of_below hb) (fun _ _ h => h)⟩⟩
/-- Bytes of a call's own that it turns. -/
def OwnZ (W : World) (base : Nat) (v : Value) (n : Nat) : Prop := ∃ zs, W.ownsRow base 5 1 v n zs ∧ AllU8 zs
theorem OwnZ.of {W : World} {base base' : Nat} {v : Value} {l : Bs} (h : OwnB W base v l) (hb : base' ≤ base) : OwnZ W base' v l.length := ⟨_, own_base0 h hb, AllU8.cells l⟩
theorem OwnZ.turn {W : World} {base n c g : Nat} (h : OwnZ W base (.slice (some ⟨g, 0, none⟩) n c) n) (j : Nat) (z : Int) : OwnZ (W.setCell ⟨g, j, none⟩ (.int .u8 z)) base (.slice (some ⟨g, 0, none⟩) n c) n := by
  obtain ⟨zs, h1, h2⟩ := h
  exact ⟨_, (World.ownsRow.stored h1 j (.int .u8 z)).1, h2.set j z⟩
theorem OwnZ.at {W : World} {base n c g : Nat} (h : OwnZ W base (.slice (some ⟨g, 0, none⟩) n c) n) {j : Nat} (hj : j < n) : (∃ z : Int, W.cell? ⟨g, j, none⟩ = some (.int .u8 z)) ∧ W.frozen? ⟨g, j, none⟩ = false := by
  obtain ⟨zs, h2, h3⟩ := h
  have hl : zs.length = n := by simpa using h2.1
  have hc := World.ownsRow.cellAt h2 j (by omega)
  rw [List.getElem?_eq_getElem (by omega)] at hc
  obtain ⟨z, hz⟩ := h3 zs[j] (List.getElem_mem _)
  exact ⟨⟨z, by rw [hc, hz]⟩, World.ownsRow.frozenAt h2 j⟩
theorem OwnZ.grown {W : World} {base n c g j : Nat} {z : Int} (h : OwnZ W base (.slice (some ⟨g, 0, none⟩) n c) n) {w0 : World} {N : Nat} (hb : Below N w0 W) (hN : N ≤ base) (hN2 : N ≤ w0.heap.size) : Below N w0 (W.setCell ⟨g, j, none⟩ (.int .u8 z)) := by
  obtain ⟨zs, h2, _⟩ := h
  have hlt := World.ownsRow.lt h2 g rfl
  exact hb.grown (World.ownsRow.stored h2 j (.int .u8 z)).2 (Nat.le_trans hN2 hb.size) (fun x hx => by have := Option.some.inj hx; omega)
theorem OwnZ.form {W : World} {base n c : Nat} {A : Option Addr} (h : OwnZ W base (.slice A n c) n) (hn : 0 < n) : ∃ g, A = some ⟨g, 0, none⟩ := by
  obtain ⟨zs, h2, _⟩ := h
  rcases h2.2 with ⟨_, h0⟩ | ⟨g, cap, cur, e, _⟩
  · omega
  · cases e
    exact ⟨g, rfl⟩
theorem OwnZ.below {W W' : World} {base n : Nat} {v : Value} (h : OwnZ W base v n) (hb : Below W.heap.size W W') : OwnZ W' base v n := by
  obtain ⟨zs, h2, h3⟩ := h
  exact ⟨zs, own_off h2 (Off.of_below hb) (fun _ _ h => h), h3⟩
/-! ### The calls that only read, on either disk -/
section
variable {X N : Nat} {q : Q} {r : R} {V : World}
theorem ref_read (hR : ∃ U G, RD U X G r V) (D : Dbl N q r) (hN : N ≤ 250000) (p : ByteArray) (hp : p.size ≤ 281474976710656) (RS : ByteArray) (re : Int) (h1 : bs (rdB q p.data.toList) = RS) (h2 : rdE q p.data.toList = re) :
    Calls Tryz.prog 11 #[.pointer (some ⟨X, 0, none⟩), .string p] V fun e w' => e = .returned (.tuple #[.string RS, .int .i64 re]) ∧ Below V.heap.size V w' := by
  obtain ⟨U, G, hG⟩ := hR
  have h := rread_any hG (by have := D.rnames; omega) (fun x hx => (D.rname hx).2) p.data.toList (by have := bs_size p.data.toList; rw [bs_back] at this; omega)
  rw [bs_back, D.sim.read] at h
  subst h1 h2
  have e : intR (readQ q p.data.toList) = rdE q p.data.toList := by
    unfold intR rdE
    cases readQ q p.data.toList <;> rfl
  rw [e] at h
  exact h
theorem ref_used (hR : ∃ U G, RD U X G r V) (D : Dbl N q r) (hN : N ≤ 250000) (u : Nat) (hu : usedQ q = u) :
    Calls Tryz.prog 13 #[.pointer (some ⟨X, 0, none⟩)] V fun e w' => e = .returned (.int .i64 (u : Int)) ∧ Below V.heap.size V w' := by
  obtain ⟨U, G, hG⟩ := hR
  have h := rused_any hG (by have := D.rnames; omega) (fun x hx => (D.rname hx).2) (by have := D.rused; have h2 : N * N ≤ 250000 * 250000 := Nat.mul_le_mul hN hN; omega)
  rw [D.sim.used, hu] at h
  exact h
theorem ref_list (hR : ∃ U G, RD U X G r V) (D : Dbl N q r) (hN : N ≤ 250000) (s : ByteArray) (ls : List Bs) (m : Nat) (hq : listQ q s.data.toList = ls) (hm : ls.length = m) :
    Calls Tryz.prog 17 #[.pointer (some ⟨X, 0, none⟩), .string s] V fun e w' => ∃ A c, e = .returned (.slice A m c) ∧ RT w' A ls ∧ Below V.heap.size V w' := by
  obtain ⟨U, G, hG⟩ := hR
  have h := rlist_any hG (by have := D.rnames; omega) (fun x hx => by have := (D.rname hx).1; omega) s.data.toList
  rw [bs_back, D.sim.list, hq] at h
  refine h.mono ?_
  rintro e w' ⟨v, rfl, hrow, hb⟩
  obtain ⟨A, c, rfl, hR, _, _⟩ := rt_of_row hrow
  exact ⟨A, c, by rw [hm], hR, hb⟩
end
theorem rdB_len {N : Nat} {q : Q} (S : Small N q) (p : Bs) : (rdB q p).length ≤ N := by
  unfold rdB readQ
  cases look q.names p with
  | none => exact Nat.zero_le _
  | some k => exact (S.body k).1
theorem lists_len {N : Nat} {q : Q} (S : Small N q) (d : Bs) : (listQ q d).length ≤ N := by
  unfold listQ
  rw [List.length_mergeSort]
  refine Nat.le_trans (List.length_filter_le _ _) ?_
  rw [List.length_map]
  exact S.nn
end Go.Proofs.YtbodkjifpmencaaGreat
