/-
  The calls of package vfs on a disk beside blocks that they leave alone. Conditions: a disk of a modest size.
-/
import Derived.Test.YtbodkjifpmencaaGreatVZD
namespace Go.Proofs.YtbodkjifpmencaaGreat
open Go.RowKit
open Go.Lib

/-- A disk at block D; the blocks of which S holds are none of its own, and are as they were at w0. -/
def MineS (S : Nat → Prop) (w0 : World) (D : Nat) (q : Q) (W : World) : Prop := ∃ L, L.d = D ∧ QD L q W ∧ Off (fun b => ¬ S b) w0 W ∧ ∀ b, foot L q b → ¬ S b
theorem MineS.off {S : Nat → Prop} {w0 : World} {D : Nat} {q : Q} {W : World} (h : MineS S w0 D q W) : Off (fun b => ¬ S b) w0 W := by obtain ⟨_, _, _, h, _⟩ := h; exact h
theorem MineS.far {S : Nat → Prop} {w0 V W : World} (hlt : ∀ b, S b → b < w0.heap.size) (h : Off (fun b => ¬ S b) w0 V) (hb : Below V.heap.size V W) : Off (fun b => ¬ S b) w0 W :=
  h.trans (Off.of_below hb) (fun _ h => h.elim) |>.mono (fun _ h => h) |> fun k => by have _ := hlt; exact k
theorem MineS.below {S : Nat → Prop} {w0 : World} {D : Nat} {q : Q} {W W' : World} (hlt : ∀ b, S b → b < w0.heap.size) (h : MineS S w0 D q W) (hb : Below W.heap.size W W') : MineS S w0 D q W' := by
  obtain ⟨L, h1, h2, h3, h4⟩ := h
  exact ⟨L, h1, h2.below hb, MineS.far hlt h3 hb, h4⟩
theorem MineS.step {S : Nat → Prop} {w0 : World} {L L' : Lay} {q q' : Q} {w w' : World} (hs : Step L q w L' q' w') (hb : Off (fun b => ¬ S b) w0 w) (hf : ∀ b, foot L q b → ¬ S b) (hlt : ∀ b, S b → b < w0.heap.size) : MineS S w0 L.d q' w' :=
  ⟨L', hs.d, hs.to, hb.trans hs.off (fun b h => .inl (hf b h)), fun b hb' => (hs.own b hb').elim (hf b) (fun h hS => by have := hlt b hS; have := hb.size; omega)⟩
/-- Blocks that a call has laid itself, beside a disk that it has made itself. -/
theorem Mine.side {w0 V W : World} {D : Nat} {q : Q} (M : Mine w0 D q V) (hb : Below V.heap.size V W) : MineS (fun b => b < w0.heap.size ∨ (V.heap.size ≤ b ∧ b < W.heap.size)) W D q W := by
  obtain ⟨L, h1, h2, h3, h4⟩ := M
  refine ⟨L, h1, h2.below hb, Off.refl _ _, fun b hf hS => ?_⟩
  rcases hS with h | ⟨h, _⟩
  · have := h4 b hf; omega
  · have := h2.foot_lt hf; omega
theorem MineS.grow {S : Nat → Prop} {w0 V W : World} {D : Nat} {q : Q} (M : MineS S w0 D q V) (hb : Below V.heap.size V W) : MineS (fun b => S b ∨ (V.heap.size ≤ b ∧ b < W.heap.size)) W D q W := by
  obtain ⟨L, h1, h2, h3, h4⟩ := M
  refine ⟨L, h1, h2.below hb, Off.refl _ _, fun b hf hS => ?_⟩
  rcases hS with h | ⟨h, _⟩
  · exact h4 b hf h
  · have := h2.foot_lt hf; omega
theorem MineS.less {S S' : Nat → Prop} {w0 W : World} {D : Nat} {q : Q} (M : MineS S w0 D q W) (h : ∀ b, S' b → S b) : MineS S' w0 D q W := by
  obtain ⟨L, h1, h2, h3, h4⟩ := M
  exact ⟨L, h1, h2, h3.mono (fun b hn hS => hn (h b hS)), fun b hf hS => h4 b hf (h b hS)⟩
theorem MineS.re {S : Nat → Prop} {w0 W : World} {D : Nat} {q : Q} (M : MineS S w0 D q W) : MineS S W D q W := by
  obtain ⟨L, h1, h2, _, h4⟩ := M
  exact ⟨L, h1, h2, Off.refl _ _, h4⟩
/-- The call turns a row of its own. -/
theorem MineS.row {S : Nat → Prop} {w0 W W' : World} {D : Nat} {q : Q} (M : MineS S w0 D q W) (g : Option Nat) (hg : W.grownBy W' g) (hS : ∀ b, g = some b → S b) : MineS S W' D q W' := by
  obtain ⟨L, h1, h2, _, h4⟩ := M
  exact ⟨L, h1, h2.off (Off.of_grown hg) (fun b hb hf => h4 b hf (hS b hb)), Off.refl _ _, h4⟩
theorem MineS.drew {S : Nat → Prop} {w0 W : World} {D : Nat} {q : Q} (M : MineS S w0 D q W) : MineS S w0 D q W.drew := by
  obtain ⟨L, h1, h2, h3, h4⟩ := M
  exact ⟨L, h1, h2.drew, h3.drew, h4⟩
section
variable {S : Nat → Prop} {w0 V W : World} {D N : Nat} {q q' : Q} {e : Int}
theorem side_write (hlt : ∀ b, S b → b < w0.heap.size) (M : MineS S w0 D q V) (hb : Below V.heap.size V W) (hS : Small N q) (s : ByteArray) (hs : s.size ≤ 281474976710656) (b : Bs) (n : Nat) (hn : b.length = n) (A : Option Addr) (c : Nat) (hA : RB W A b) (hAF : 0 < n → ∀ x, aBlock A = some x → S x ∨ V.heap.size ≤ x) (hN : N + 3 + n ≤ 1048576) (hq : writeQ q s.data.toList b = (e, q')) :
    Calls Tryz.prog 18 #[.pointer (some ⟨D, 0, none⟩), .string s, .slice A n c] W fun x w' => x = .returned (.int .i64 e) ∧ MineS S w0 D q' w' := by
  obtain ⟨L, rfl, h2, h3, h4⟩ := M
  subst hn
  have hno : 0 < b.length → ∀ x, aBlock A = some x → ¬ foot L q x := fun hz x hx hf => by
    rcases hAF hz x hx with h | h
    · exact h4 x hf h
    · have := h2.foot_lt hf; omega
  have h := write_any (h2.below hb) hS s hs b A c hA hno hN
  rw [hq] at h
  exact h.mono fun x w' ⟨k1, L', k2⟩ => ⟨k1, MineS.step k2 (MineS.far hlt h3 hb) h4 hlt⟩
theorem side_append (hlt : ∀ b, S b → b < w0.heap.size) (M : MineS S w0 D q V) (hb : Below V.heap.size V W) (hS : Small N q) (s : ByteArray) (hs : s.size ≤ 281474976710656) (b : Bs) (n : Nat) (hn : b.length = n) (A : Option Addr) (c : Nat) (hA : RB W A b) (hAF : 0 < n → ∀ x, aBlock A = some x → S x ∨ V.heap.size ≤ x) (hN : N + 3 + n ≤ 1048576) (hq : appendQ q s.data.toList b = (e, q')) :
    Calls Tryz.prog 21 #[.pointer (some ⟨D, 0, none⟩), .string s, .slice A n c] W fun x w' => x = .returned (.int .i64 e) ∧ MineS S w0 D q' w' := by
  obtain ⟨L, rfl, h2, h3, h4⟩ := M
  subst hn
  have hno : 0 < b.length → ∀ x, aBlock A = some x → ¬ foot L q x := fun hz x hx hf => by
    rcases hAF hz x hx with h | h
    · exact h4 x hf h
    · have := h2.foot_lt hf; omega
  have h := append_any (h2.below hb) hS s hs b A c hA hno hN
  rw [hq] at h
  exact h.mono fun x w' ⟨k1, L', k2⟩ => ⟨k1, MineS.step k2 (MineS.far hlt h3 hb) h4 hlt⟩
theorem side_rename (hlt : ∀ b, S b → b < w0.heap.size) (M : MineS S w0 D q W) (hS : Small N q) (hN : N ≤ 1048576) (s t : ByteArray) (hs : s.size ≤ 281474976710656) (ht : t.size ≤ 281474976710656) (hq : renameQ q s.data.toList t.data.toList = (e, q')) :
    Calls Tryz.prog 27 #[.pointer (some ⟨D, 0, none⟩), .string s, .string t] W fun x w' => x = .returned (.int .i64 e) ∧ MineS S w0 D q' w' := by
  obtain ⟨L, rfl, h2, h3, h4⟩ := M
  have h := rename_any h2 hS hN s t hs ht
  rw [hq] at h
  exact h.mono fun x w' ⟨k1, L', k2⟩ => ⟨k1, MineS.step k2 h3 h4 hlt⟩
theorem side_remove (hlt : ∀ b, S b → b < w0.heap.size) (M : MineS S w0 D q W) (hS : Small N q) (hN : N ≤ 1048576) (s : ByteArray) (hs : s.size ≤ 281474976710656) (hq : removeQ q s.data.toList = (e, q')) :
    Calls Tryz.prog 29 #[.pointer (some ⟨D, 0, none⟩), .string s] W fun x w' => x = .returned (.int .i64 e) ∧ MineS S w0 D q' w' := by
  obtain ⟨L, rfl, h2, h3, h4⟩ := M
  have h := remove_any h2 hS hN s hs
  rw [hq] at h
  exact h.mono fun x w' ⟨k1, L', k2⟩ => ⟨k1, MineS.step k2 h3 h4 hlt⟩
theorem side_sync (hlt : ∀ b, S b → b < w0.heap.size) (M : MineS S w0 D q W) (hS : Small N q) (hN : N ≤ 1048576) (s : ByteArray) (hs : s.size ≤ 281474976710656) (hq : syncQ q s.data.toList = (e, q')) :
    Calls Tryz.prog 19 #[.pointer (some ⟨D, 0, none⟩), .string s] W fun x w' => x = .returned (.int .i64 e) ∧ MineS S w0 D q' w' := by
  obtain ⟨L, rfl, h2, h3, h4⟩ := M
  have h := sync_any h2 hS hN s hs
  rw [hq] at h
  exact h.mono fun x w' ⟨k1, L', k2⟩ => ⟨k1, MineS.step k2 h3 h4 hlt⟩
theorem side_syncDir (hlt : ∀ b, S b → b < w0.heap.size) (M : MineS S w0 D q W) (hS : Small N q) (hN : N ≤ 1048576) (s : ByteArray) (hs : s.size ≤ 281474976710656) (hq : syncDirQ q s.data.toList = (e, q')) :
    Calls Tryz.prog 20 #[.pointer (some ⟨D, 0, none⟩), .string s] W fun x w' => x = .returned (.int .i64 e) ∧ MineS S w0 D q' w' := by
  obtain ⟨L, rfl, h2, h3, h4⟩ := M
  have h := syncDir_any h2 hS hN s hs
  rw [hq] at h
  exact h.mono fun x w' ⟨k1, L', k2⟩ => ⟨k1, MineS.step k2 h3 h4 hlt⟩
theorem side_fail (hlt : ∀ b, S b → b < w0.heap.size) (M : MineS S w0 D q W) (calls : Int) (once : Bool) :
    Calls Tryz.prog 24 #[.pointer (some ⟨D, 0, none⟩), .int .i64 calls, .bool once] W fun x w' => x = .returned (.tuple #[]) ∧ MineS S w0 D (failQ q calls once) w' := by
  obtain ⟨L, rfl, h2, h3, h4⟩ := M
  exact (fail_any h2 calls once).mono fun x w' ⟨k1, k2⟩ => ⟨k1, MineS.step k2 h3 h4 hlt⟩
theorem side_crash (hlt : ∀ b, S b → b < w0.heap.size) (M : MineS S w0 D q V) (hb : Below V.heap.size V W) (hS : Small N q) (hN : N ≤ 1048576) (ks : List Int) (n : Nat) (hn : ks.length = n) (A : Option Addr) (c : Nat) (hA : RI W A ks) (hR : Range ks) (hkl : ks.length ≤ 1048576) (hc : ks.length ≤ c) (hAF : 0 < ks.length → ∀ x, aBlock A = some x → S x ∨ V.heap.size ≤ x) (hq : crashQ q ks = q') :
    Calls Tryz.prog 22 #[.pointer (some ⟨D, 0, none⟩), .slice A n c] W fun x w' => x = .returned (.tuple #[]) ∧ MineS S w0 D q' w' := by
  obtain ⟨L, rfl, h2, h3, h4⟩ := M
  subst hn
  have hno : 0 < ks.length → ∀ x, aBlock A = some x → ¬ foot L q x := fun hz x hx hf => by
    rcases hAF hz x hx with h | h
    · exact h4 x hf h
    · have := h2.foot_lt hf; omega
  have h := crash_any (h2.below hb) hS hN ks A c hA hR hkl hc hno
  rw [hq] at h
  exact h.mono fun x w' ⟨k1, L', k2⟩ => ⟨k1, MineS.step k2 (MineS.far hlt h3 hb) h4 hlt⟩
theorem side_used (hlt : ∀ b, S b → b < w0.heap.size) (M : MineS S w0 D q W) (hS : Small N q) (hN : N ≤ 1048576) (u : Nat) (hu : usedQ q = u) :
    Calls Tryz.prog 12 #[.pointer (some ⟨D, 0, none⟩)] W fun x w' => x = .returned (.int .i64 (u : Int)) ∧ MineS S w0 D q w' := by
  have M' := M
  obtain ⟨L, rfl, h2, h3, h4⟩ := M
  subst hu
  exact (used_any h2 hS hN).mono fun x w' ⟨k1, k2⟩ => ⟨k1, M'.below hlt k2⟩
theorem side_list (hlt : ∀ b, S b → b < w0.heap.size) (M : MineS S w0 D q W) (hS : Small N q) (hN : N ≤ 1048576) (s : ByteArray) (ls : List Bs) (hq : listQ q s.data.toList = ls) :
    Calls Tryz.prog 16 #[.pointer (some ⟨D, 0, none⟩), .string s] W fun x w' => ∃ A c, x = .returned (.slice A ls.length c) ∧ RT w' A ls ∧ (∀ b, aBlock A = some b → W.heap.size ≤ b ∧ b < w'.heap.size) ∧ Below W.heap.size W w' ∧ MineS S w0 D q w' := by
  have M' := M
  obtain ⟨L, rfl, h2, h3, h4⟩ := M
  subst hq
  refine (list_any h2 hS hN s).mono fun x w' ⟨v, k1, k2, k3⟩ => ?_
  obtain ⟨A, c, rfl, k4, k5, _⟩ := rt_of_row k2
  exact ⟨A, c, k1, k4, k5, k3, M'.below hlt k3⟩
theorem side_read (hlt : ∀ b, S b → b < w0.heap.size) (M : MineS S w0 D q W) (hS : Small N q) (hN : N ≤ 1048576) (s : ByteArray) (hs : s.size ≤ 281474976710656) (b : Bs) (hq : readQ q s.data.toList = some b) :
    Calls Tryz.prog 10 #[.pointer (some ⟨D, 0, none⟩), .string s] W fun x w' => ∃ v, x = .returned (.tuple #[v, .int .i64 0]) ∧ OwnB w' W.heap.size v b ∧ Below W.heap.size W w' ∧ MineS S w0 D q w' := by
  have M' := M
  obtain ⟨L, rfl, h2, h3, h4⟩ := M
  refine (read_any h2 hS hN s hs).mono fun x w' ⟨k1, k2⟩ => ?_
  unfold readQ at hq
  cases hl : look q.names s.data.toList with
  | none => rw [hl] at hq; cases hq
  | some k =>
    rw [hl] at hq k1
    injection hq with hq
    obtain ⟨v, k3, k4⟩ := k1
    exact ⟨v, k3, by rw [← hq]; exact k4, k2, M'.below hlt k2⟩
theorem side_read_none (hlt : ∀ b, S b → b < w0.heap.size) (M : MineS S w0 D q W) (hS : Small N q) (hN : N ≤ 1048576) (s : ByteArray) (hs : s.size ≤ 281474976710656) (hq : readQ q s.data.toList = none) :
    Calls Tryz.prog 10 #[.pointer (some ⟨D, 0, none⟩), .string s] W fun x w' => x = .returned (.tuple #[.slice none 0 0, .int .i64 60]) ∧ MineS S w0 D q w' := by
  have M' := M
  obtain ⟨L, rfl, h2, h3, h4⟩ := M
  refine (read_any h2 hS hN s hs).mono fun x w' ⟨k1, k2⟩ => ?_
  unfold readQ at hq
  cases hl : look q.names s.data.toList with
  | none => rw [hl] at k1; exact ⟨k1, M'.below hlt k2⟩
  | some k => rw [hl] at hq; cases hq
end
end Go.Proofs.YtbodkjifpmencaaGreat
