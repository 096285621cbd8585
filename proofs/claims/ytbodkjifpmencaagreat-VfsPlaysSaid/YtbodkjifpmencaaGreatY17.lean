/-
  Of the proof that disks answer every script as the document says: the parts VZJ VZK VRE. No conditions.
-/
import Derived.Test.YtbodkjifpmencaaGreatY13
namespace Go.Proofs.YtbodkjifpmencaaGreat
open Go.RowKit
open Go.Lib

/-- A disk at block D; the blocks of which S holds are none of its own, and are as they were at w0. -/
def MineS (S : Nat → Prop) (w0 : World) (D : Nat) (q : Q) (W : World) : Prop := ∃ L, L.d = D ∧ QD L q W ∧ Off (fun b => ¬ S b) w0 W ∧ ∀ b, foot L q b → ¬ S b
theorem MineS.off {S : Nat → Prop} {w0 : World} {D : Nat} {q : Q} {W : World} (h : MineS S w0 D q W) : Off (fun b => ¬ S b) w0 W := by obtain ⟨_, _, _, h, _⟩ := h; exact h
theorem MineS.far {S : Nat → Prop} {w0 V W : World} (hlt : ∀ b, S b → b < w0.heap.size) (h : Off (fun b => ¬ S b) w0 V) (hb : Below V.heap.size V W) : Off (fun b => ¬ S b) w0 W :=
  h.trans (Off.of_below hb) (fun _ h => h.elim) |>.mono (fun _ h => h) |> fun k => by have _ := hlt; exact k
theorem MineS.below {S : Nat → Prop} {w0 : World} {D : Nat} {q : Q} {W W' : World} (hlt : ∀ b, S b → b < w0.heap.size) (h : MineS S w0 D q W) (hb : Below W.heap.size W W') : MineS S w0 D q W' := by
  obtain ⟨L, h1, h2, h3, h4⟩ := h
  exact ⟨L, h1, h2.below hb, MineS.far hlt h3 hb, h4⟩
theorem MineS.step {S : Nat → Prop} {w0 : World} {L L' : Lay} {q q' : Q} {w w' : World} (hs : Step L q w L' q' w') (hb : Off (fun b => ¬ S b) w0 w) (hf : ∀ b, foot L q b → ¬ S b) (hlt : ∀ b, S b → b < w0.heap.size) : MineS S w0 L.d q' w' :=
  ⟨L', hs.d, hs.to, hb.trans hs.off (fun b h => .inl (hf b h)), fun b hb' => (hs.own b hb').elim (hf b) (fun h hS => by have := hlt b hS; have := hb.size; omega)⟩
/-- Blocks that a call has laid itself, beside a disk that it has made itself. -/
theorem Mine.side {w0 V W : World} {D : Nat} {q : Q} (M : Mine w0 D q V) (hb : Below V.heap.size V W) : MineS (fun b => b < w0.heap.size ∨ (V.heap.size ≤ b ∧ b < W.heap.size)) W D q W := by
  obtain ⟨L, h1, h2, h3, h4⟩ := M
  refine ⟨L, h1, h2.below hb, Off.refl _ _, fun b hf hS => ?_⟩
  rcases hS with h | ⟨h, _⟩
  · have := h4 b hf; omega
  · have := h2.foot_lt hf; omega
theorem MineS.grow {S : Nat → Prop} {w0 V W : World} {D : Nat} {q : Q} (M : MineS S w0 D q V) (hb : Below V.heap.size V W) : MineS (fun b => S b ∨ (V.heap.size ≤ b ∧ b < W.heap.size)) W D q W := by
  obtain ⟨L, h1, h2, h3, h4⟩ := M
  refine ⟨L, h1, h2.below hb, Off.refl _ _, fun b hf hS => ?_⟩
  rcases hS with h | ⟨h, _⟩
  · exact h4 b hf h
  · have := h2.foot_lt hf; omega
theorem MineS.less {S S' : Nat → Prop} {w0 W : World} {D : Nat} {q : Q} (M : MineS S w0 D q W) (h : ∀ b, S' b → S b) : MineS S' w0 D q W := by
  obtain ⟨L, h1, h2, h3, h4⟩ := M
  exact ⟨L, h1, h2, h3.mono (fun b hn hS => hn (h b hS)), fun b hf hS => h4 b hf (h b hS)⟩
theorem MineS.re {S : Nat → Prop} {w0 W : World} {D : Nat} {q : Q} (M : MineS S w0 D q W) : MineS S W D q W := by
  obtain ⟨L, h1, h2, _, h4⟩ := M
  exact ⟨L, h1, h2, Off.refl _ _, h4⟩
/-- The call turns a row of its own. -/
theorem MineS.row {S : Nat → Prop} {w0 W W' : World} {D : Nat} {q : Q} (M : MineS S w0 D q W) (g : Option Nat) (hg : W.grownBy W' g) (hS : ∀ b, g = some b → S b) : MineS S W' D q W' := by
  obtain ⟨L, h1, h2, _, h4⟩ := M
  exact ⟨L, h1, h2.off (Off.of_grown hg) (fun b hb hf => h4 b hf (hS b hb)), Off.refl _ _, h4⟩
theorem MineS.drew {S : Nat → Prop} {w0 W : World} {D : Nat} {q : Q} (M : MineS S w0 D q W) : MineS S w0 D q W.drew := by
  obtain ⟨L, h1, h2, h3, h4⟩ := M
  exact ⟨L, h1, h2.drew, h3.drew, h4⟩
section
variable {S : Nat → Prop} {w0 V W : World} {D N : Nat} {q q' : Q} {e : Int}
theorem side_write (hlt : ∀ b, S b → b < w0.heap.size) (M : MineS S w0 D q V) (hb : Below V.heap.size V W) (hS : Small N q) (s : ByteArray) (hs : s.size ≤ 281474976710656) (b : Bs) (n : Nat) (hn : b.length = n) (A : Option Addr) (c : Nat) (hA : RB W A b) (hAF : 0 < n → ∀ x, aBlock A = some x → S x ∨ V.heap.size ≤ x) (hN : N + 3 + n ≤ 1048576) (hq : writeQ q s.data.toList b = (e, q')) :
    Calls Tryz.prog 18 #[.pointer (some ⟨D, 0, none⟩), .string s, .slice A n c] W fun x w' => x = .returned (.int .i64 e) ∧ MineS S w0 D q' w' := by
  obtain ⟨L, rfl, h2, h3, h4⟩ := M
  subst hn
  have hno : 0 < b.length → ∀ x, aBlock A = some x → ¬ foot L q x := fun hz x hx hf => by
    rcases hAF hz x hx with h | h
    · exact h4 x hf h
    · have := h2.foot_lt hf; omega
  have h := write_any (h2.below hb) hS s hs b A c hA hno hN
  rw [hq] at h
  exact h.mono fun x w' ⟨k1, L', k2⟩ => ⟨k1, MineS.step k2 (MineS.far hlt h3 hb) h4 hlt⟩
theorem side_append (hlt : ∀ b, S b → b < w0.heap.size) (M : MineS S w0 D q V) (hb : Below V.heap.size V W) (hS : Small N q) (s : ByteArray) (hs : s.size ≤ 281474976710656) (b : Bs) (n : Nat) (hn : b.length = n) (A : Option Addr) (c : Nat) (hA : RB W A b) (hAF : 0 < n → ∀ x, aBlock A = some x → S x ∨ V.heap.size ≤ x) (hN : N + 3 + n ≤ 1048576) (hq : appendQ q s.data.toList b = (e, q')) :
    Calls Tryz.prog 21 #[.pointer (some ⟨D, 0, none⟩), .string s, .slice A n c] W fun x w' => x = .returned (.int .i64 e) ∧ MineS S w0 D q' w' := by
  obtain ⟨L, rfl, h2, h3, h4⟩ := M
  subst hn
  have hno : 0 < b.length → ∀ x, aBlock A = some x → ¬ foot L q x := fun hz x hx hf => by
    rcases hAF hz x hx with h | h
    · exact h4 x hf h
    · have := h2.foot_lt hf; omega
  have h := append_any (h2.below hb) hS s hs b A c hA hno hN
  rw [hq] at h
  exact h.mono fun x w' ⟨k1, L', k2⟩ => ⟨k1, MineS.step k2 (MineS.far hlt h3 hb) h4 hlt⟩
theorem side_rename (hlt : ∀ b, S b → b < w0.heap.size) (M : MineS S w0 D q W) (hS : Small N q) (hN : N ≤ 1048576) (s t : ByteArray) (hs : s.size ≤ 281474976710656) (ht : t.size ≤ 281474976710656) (hq : renameQ q s.data.toList t.data.toList = (e, q')) :
    Calls Tryz.prog 27 #[.pointer (some ⟨D, 0, none⟩), .string s, .string t] W fun x w' => x = .returned (.int .i64 e) ∧ MineS S w0 D q' w' := by
  obtain ⟨L, rfl, h2, h3, h4⟩ := M
  have h := rename_any h2 hS hN s t hs ht
  rw [hq] at h
  exact h.mono fun x w' ⟨k1, L', k2⟩ => ⟨k1, MineS.step k2 h3 h4 hlt⟩
theorem side_remove (hlt : ∀ b, S b → b < w0.heap.size) (M : MineS S w0 D q W) (hS : Small N q) (hN : N ≤ 1048576) (s : ByteArray) (hs : s.size ≤ 281474976710656) (hq : removeQ q s.data.toList = (e, q')) :
    Calls Tryz.prog 29 #[.pointer (some ⟨D, 0, none⟩), .string s] W fun x w' => x = .returned (.int .i64 e) ∧ MineS S w0 D q' w' := by
  obtain ⟨L, rfl, h2, h3, h4⟩ := M
  have h := remove_any h2 hS hN s hs
  rw [hq] at h
  exact h.mono fun x w' ⟨k1, L', k2⟩ => ⟨k1, MineS.step k2 h3 h4 hlt⟩
theorem side_sync (hlt : ∀ b, S b → b < w0.heap.size) (M : MineS S w0 D q W) (hS : Small N q) (hN : N ≤ 1048576) (s : ByteArray) (hs : s.size ≤ 281474976710656) (hq : syncQ q s.data.toList = (e, q')) :
    Calls Tryz.prog 19 #[.pointer (some ⟨D, 0, none⟩), .string s] W fun x w' => x = .returned (.int .i64 e) ∧ MineS S w0 D q' w' := by
  obtain ⟨L, rfl, h2, h3, h4⟩ := M
  have h := sync_any h2 hS hN s hs
  rw [hq] at h
  exact h.mono fun x w' ⟨k1, L', k2⟩ => ⟨k1, MineS.step k2 h3 h4 hlt⟩
theorem side_syncDir (hlt : ∀ b, S b → b < w0.heap.size) (M : MineS S w0 D q W) (hS : Small N q) (hN : N ≤ 1048576) (s : ByteArray) (hs : s.size ≤ 281474976710656) (hq : syncDirQ q s.data.toList = (e, q')) :
    Calls Tryz.prog 20 #[.pointer (some ⟨D, 0, none⟩), .string s] W fun x w' => x = .returned (.int .i64 e) ∧ MineS S w0 D q' w' := by
  obtain ⟨L, rfl, h2, h3, h4⟩ := M
  have h := syncDir_any h2 hS hN s hs
  rw [hq] at h
  exact h.mono fun x w' ⟨k1, L', k2⟩ => ⟨k1, MineS.step k2 h3 h4 hlt⟩
theorem side_fail (hlt : ∀ b, S b → b < w0.heap.size) (M : MineS S w0 D q W) (calls : Int) (once : Bool) :
    Calls Tryz.prog 24 #[.pointer (some ⟨D, 0, none⟩), .int .i64 calls, .bool once] W fun x w' => x = .returned (.tuple #[]) ∧ MineS S w0 D (failQ q calls once) w' := by
  obtain ⟨L, rfl, h2, h3, h4⟩ := M
  exact (fail_any h2 calls once).mono fun x w' ⟨k1, k2⟩ => ⟨k1, MineS.step k2 h3 h4 hlt⟩
theorem side_crash (hlt : ∀ b, S b → b < w0.heap.size) (M : MineS S w0 D q V) (hb : Below V.heap.size V W) (hS : Small N q) (hN : N ≤ 1048576) (ks : List Int) (n : Nat) (hn : ks.length = n) (A : Option Addr) (c : Nat) (hA : RI W A ks) (hR : Range ks) (hkl : ks.length ≤ 1048576) (hc : ks.length ≤ c) (hAF : 0 < ks.length → ∀ x, aBlock A = some x → S x ∨ V.heap.size ≤ x) (hq : crashQ q ks = q') :
    Calls Tryz.prog 22 #[.pointer (some ⟨D, 0, none⟩), .slice A n c] W fun x w' => x = .returned (.tuple #[]) ∧ MineS S w0 D q' w' := by
  obtain ⟨L, rfl, h2, h3, h4⟩ := M
  subst hn
  have hno : 0 < ks.length → ∀ x, aBlock A = some x → ¬ foot L q x := fun hz x hx hf => by
    rcases hAF hz x hx with h | h
    · exact h4 x hf h
    · have := h2.foot_lt hf; omega
  have h := crash_any (h2.below hb) hS hN ks A c hA hR hkl hc hno
  rw [hq] at h
  exact h.mono fun x w' ⟨k1, L', k2⟩ => ⟨k1, MineS.step k2 (MineS.far hlt h3 hb) h4 hlt⟩
theorem side_used (hlt : ∀ b, S b → b < w0.heap.size) (M : MineS S w0 D q W) (hS : Small N q) (hN : N ≤ 1048576) (u : Nat) (hu : usedQ q = u) :
    Calls Tryz.prog 12 #[.pointer (some ⟨D, 0, none⟩)] W fun x w' => x = .returned (.int .i64 (u : Int)) ∧ MineS S w0 D q w' := by
  have M' := M
  obtain ⟨L, rfl, h2, h3, h4⟩ := M
  subst hu
  exact (used_any h2 hS hN).mono fun x w' ⟨k1, k2⟩ => ⟨k1, M'.below hlt k2⟩
theorem side_list (hlt : ∀ b, S b → b < w0.heap.size) (M : MineS S w0 D q W) (hS : Small N q) (hN : N ≤ 1048576) (s : ByteArray) (ls : List Bs) (hq : listQ q s.data.toList = ls) :
    Calls Tryz.prog 16 #[.pointer (some ⟨D, 0, none⟩), .string s] W fun x w' => ∃ A c, x = .returned (.slice A ls.length c) ∧ RT w' A ls ∧ (∀ b, aBlock A = some b → W.heap.size ≤ b ∧ b < w'.heap.size) ∧ Below W.heap.size W w' ∧ MineS S w0 D q w' := by
  have M' := M
  obtain ⟨L, rfl, h2, h3, h4⟩ := M
  subst hq
  refine (list_any h2 hS hN s).mono fun x w' ⟨v, k1, k2, k3⟩ => ?_
  obtain ⟨A, c, rfl, k4, k5, _⟩ := rt_of_row k2
  exact ⟨A, c, k1, k4, k5, k3, M'.below hlt k3⟩
theorem side_read (hlt : ∀ b, S b → b < w0.heap.size) (M : MineS S w0 D q W) (hS : Small N q) (hN : N ≤ 1048576) (s : ByteArray) (hs : s.size ≤ 281474976710656) (b : Bs) (hq : readQ q s.data.toList = some b) :
    Calls Tryz.prog 10 #[.pointer (some ⟨D, 0, none⟩), .string s] W fun x w' => ∃ v, x = .returned (.tuple #[v, .int .i64 0]) ∧ OwnB w' W.heap.size v b ∧ Below W.heap.size W w' ∧ MineS S w0 D q w' := by
  have M' := M
  obtain ⟨L, rfl, h2, h3, h4⟩ := M
  refine (read_any h2 hS hN s hs).mono fun x w' ⟨k1, k2⟩ => ?_
  unfold readQ at hq
  cases hl : look q.names s.data.toList with
  | none => rw [hl] at hq; cases hq
  | some k =>
    rw [hl] at hq k1
    injection hq with hq
    obtain ⟨v, k3, k4⟩ := k1
    exact ⟨v, k3, by rw [← hq]; exact k4, k2, M'.below hlt k2⟩
theorem side_read_none (hlt : ∀ b, S b → b < w0.heap.size) (M : MineS S w0 D q W) (hS : Small N q) (hN : N ≤ 1048576) (s : ByteArray) (hs : s.size ≤ 281474976710656) (hq : readQ q s.data.toList = none) :
    Calls Tryz.prog 10 #[.pointer (some ⟨D, 0, none⟩), .string s] W fun x w' => x = .returned (.tuple #[.slice none 0 0, .int .i64 60]) ∧ MineS S w0 D q w' := by
  have M' := M
  obtain ⟨L, rfl, h2, h3, h4⟩ := M
  refine (read_any h2 hS hN s hs).mono fun x w' ⟨k1, k2⟩ => ?_
  unfold readQ at hq
  cases hl : look q.names s.data.toList with
  | none => rw [hl] at k1; exact ⟨k1, M'.below hlt k2⟩
  | some k => rw [hl] at hq; cases hq
end
end Go.Proofs.YtbodkjifpmencaaGreat
namespace Go.Proofs.YtbodkjifpmencaaGreat
open Go.RowKit
open Go.Lib

set_option maxRecDepth 100000 in
set_option maxHeartbeats 1000000 in
theorem side_try {S : Nat → Prop} {w0 W : World} {D N : Nat} {q : Q} (hlt : ∀ b, S b → b < w0.heap.size) (M : MineS S w0 D q W) (hS : Small N q) (o : OpR) (hok : OpOk W o) (hlow : 0 < o.b.length → ∀ x, aBlock o.bA = some x → S x) (hN : N + 3 + o.b.length ≤ 1048576) (hp : o.path.size ≤ 281474976710656) (ht : o.tgt.size ≤ 281474976710656) :
    Calls Tryz.prog 23 #[.pointer (some ⟨D, 0, none⟩), opAgg o] W fun e w' => e = .returned (.int .i64 (tryQ q o).1) ∧ MineS S w0 D (tryQ q o).2 w' := by
  obtain ⟨e, q', hq⟩ : ∃ e q', tryQ q o = (e, q') := ⟨_, _, rfl⟩
  have hk := kindQ_lt o
  have hkq : kindQ o = (IntKind.u64.wrap o.kind).tmod 8 := rfl
  obtain ⟨m, hm⟩ : ∃ m, kindQ o = m := ⟨_, rfl⟩
  unfold tryQ at hq
  rw [hm] at hk hq hkq
  have hrb := hok.rb
  obtain ⟨kd, p, t, bA, bc, b, n, kA, kc, ks⟩ := o
  unfold opAgg
  dsimp only at *
  obtain ⟨nb, hnb⟩ : ∃ x, b.length = x := ⟨_, rfl⟩
  rw [hnb] at hN hlow ⊢
  have hrw : tryQ q ⟨kd, p, t, bA, bc, b, n, kA, kc, ks⟩ = (e, q') := by unfold tryQ; rw [hm]; exact hq
  rw [hrw]
  clear hrw hok hm
  have hN' : N ≤ 1048576 := by omega
  have HRB := Lib.hid (fun o => hrb.below ((Below.refl W.heap.size W).alloc (Nat.le_refl _) o))
  have HLOW := Lib.hid hlow
  clear hrb hlow
  by_cases h0 : m = 0
  · subst h0
    rw [if_pos rfl] at hq
    have HQ := Lib.hid hq
    have hk8 := hkq.symm
    clear hq hkq
    go_enter Tryz.func23, Tryz.ntmps23
    go_wp2_with (go_at_call 18; refine (side_write hlt M ((Below.refl _ _).alloc (Nat.le_refl _) _) hS p hp b nb hnb bA bc (HRB.out _) (fun hz x hx => .inl (HLOW.out hz x hx)) hN HQ.out).mono ?_; rintro x w1 ⟨rfl, M1⟩)
    go_ret
    exact ⟨rfl, M1⟩
  by_cases h1 : m = 1
  · subst h1
    rw [if_neg (by decide), if_pos rfl] at hq
    have HQ := Lib.hid hq
    have hk8 := hkq.symm
    clear hq hkq
    go_enter Tryz.func23, Tryz.ntmps23
    go_wp2_with (go_at_call 21; refine (side_append hlt M ((Below.refl _ _).alloc (Nat.le_refl _) _) hS p hp b nb hnb bA bc (HRB.out _) (fun hz x hx => .inl (HLOW.out hz x hx)) hN HQ.out).mono ?_; rintro x w1 ⟨rfl, M1⟩)
    go_ret
    exact ⟨rfl, M1⟩
  by_cases h2 : m = 2
  · subst h2
    rw [if_neg (by decide), if_neg (by decide), if_pos rfl] at hq
    have HQ := Lib.hid hq
    have hk8 := hkq.symm
    clear hq hkq
    go_enter Tryz.func23, Tryz.ntmps23
    go_wp2_with (go_at_call 27; refine (side_rename hlt (M.below hlt ((Below.refl _ _).alloc (Nat.le_refl _) _)) hS hN' p t hp ht HQ.out).mono ?_; rintro x w1 ⟨rfl, M1⟩)
    go_ret
    exact ⟨rfl, M1⟩
  by_cases h3 : m = 3
  · subst h3
    rw [if_neg (by decide), if_neg (by decide), if_neg (by decide), if_pos rfl] at hq
    have HQ := Lib.hid hq
    have hk8 := hkq.symm
    clear hq hkq
    go_enter Tryz.func23, Tryz.ntmps23
    go_wp2_with (go_at_call 29; refine (side_remove hlt (M.below hlt ((Below.refl _ _).alloc (Nat.le_refl _) _)) hS hN' p hp HQ.out).mono ?_; rintro x w1 ⟨rfl, M1⟩)
    go_ret
    exact ⟨rfl, M1⟩
  by_cases h4 : m = 4
  · subst h4
    rw [if_neg (by decide), if_neg (by decide), if_neg (by decide), if_neg (by decide), if_pos rfl] at hq
    have HQ := Lib.hid hq
    have hk8 := hkq.symm
    clear hq hkq
    go_enter Tryz.func23, Tryz.ntmps23
    go_wp2_with (go_at_call 19; refine (side_sync hlt (M.below hlt ((Below.refl _ _).alloc (Nat.le_refl _) _)) hS hN' p hp HQ.out).mono ?_; rintro x w1 ⟨rfl, M1⟩)
    go_ret
    exact ⟨rfl, M1⟩
  rw [if_neg (by omega), if_neg (by omega), if_neg (by omega), if_neg (by omega), if_neg (by omega)] at hq
  have HQ := Lib.hid hq
  have n0 : ((IntKind.u64.wrap kd).tmod 8 == 0) = false := by rw [beq_eq_false_iff_ne]; omega
  have n1 : ((IntKind.u64.wrap kd).tmod 8 == 1) = false := by rw [beq_eq_false_iff_ne]; omega
  have n2 : ((IntKind.u64.wrap kd).tmod 8 == 2) = false := by rw [beq_eq_false_iff_ne]; omega
  have n3 : ((IntKind.u64.wrap kd).tmod 8 == 3) = false := by rw [beq_eq_false_iff_ne]; omega
  have n4 : ((IntKind.u64.wrap kd).tmod 8 == 4) = false := by rw [beq_eq_false_iff_ne]; omega
  clear hq hkq
  go_enter Tryz.func23, Tryz.ntmps23
  go_wp2_with (go_at_call 20; refine (side_syncDir hlt (M.below hlt ((Below.refl _ _).alloc (Nat.le_refl _) _)) hS hN' p hp HQ.out).mono ?_; rintro x w1 ⟨rfl, M1⟩)
  go_ret
  exact ⟨rfl, M1⟩
theorem OpOk.off {F : Nat → Prop} {w W : World} {o : OpR} (h : OpOk w o) (ho : Off F w W) (hF : ∀ b, b < w.heap.size → ¬ F b) : OpOk W o := by
  refine ⟨h.kind, h.path, h.tgt, h.n, fun hz => ?_, fun hz => ?_, h.rg, h.cap, h.nilb⟩
  · obtain ⟨b, off, he, hb, hc⟩ := h.rb hz
    exact ⟨b, off, he, Nat.lt_of_lt_of_le hb ho.size, fun j hj => ho.cell (hc j hj) (hF b hb)⟩
  · obtain ⟨b, off, he, hb, hc⟩ := h.ri hz
    exact ⟨b, off, he, Nat.lt_of_lt_of_le hb ho.size, fun j hj => ho.cell (hc j hj) (hF b hb)⟩
theorem OpOk.low {w : World} {o : OpR} (h : OpOk w o) : 0 < o.b.length → ∀ x, aBlock o.bA = some x → x < w.heap.size := fun hz x hx => by
  obtain ⟨b, off, he, hb, _⟩ := h.rb hz
  rw [he] at hx
  have : b = x := Option.some.inj hx
  omega
end Go.Proofs.YtbodkjifpmencaaGreat
namespace Go.Proofs.YtbodkjifpmencaaGreat
open Go.RowKit
open Go.Lib

/-- The document's disk at block X: new, without room. -/
def EmptyD (X : Nat) (w : World) : Prop := Blk X (.cells #[.int .i64 0, .slice none 0 0, .slice none 0 0, .slice none 0 0, .slice none 0 0, .bool false, .bool false, .int .i64 0] 65 (0, 0)) w
theorem EmptyD.grown {X : Nat} {w w' : World} {row : Option Nat} (h : EmptyD X w) (g : w.grownBy w' row) (hne : some X ≠ row) : EmptyD X w' := Blk.grown h g hne
theorem EmptyD.off {F : Nat → Prop} {X : Nat} {w w' : World} (h : EmptyD X w) (ho : Off F w w') (hF : ¬ F X) : EmptyD X w' := ho.blk h hF
theorem refnew_any (w : World) : Calls Tryz.prog 8 #[.int .i64 0] w fun e w' => e = .returned (.pointer (some ⟨w.heap.size, 0, none⟩)) ∧ EmptyD w.heap.size w' ∧ Below w.heap.size w w' := by
  go_enter Tryz.func8, Tryz.ntmps8
  go_wp2
  go_ret
  exact ⟨rfl, Blk.new _ _, (Below.refl _ _).alloc (Nat.le_refl _) _⟩
set_option maxRecDepth 100000 in
theorem reffail_any {X : Nat} {w : World} (H : EmptyD X w) (calls : Int) (once : Bool) : Calls Tryz.prog 33 #[.pointer (some ⟨X, 0, none⟩), .int .i64 calls, .bool once] w fun e w' => e = .returned (.tuple #[]) ∧ w.grownBy w' (some X) := by
  have c5 := H.cell 5
  have c6 := H.cell 6
  have c7 := H.cell 7
  have fr : ∀ k, w.frozen? ⟨X, k, none⟩ = false := fun k => H.free k
  clear H
  go_enter Tryz.func33, Tryz.ntmps33
  go_wp2
  go_end0
  exact ⟨rfl, ((grown_set _ X 5 _).trans (grown_set _ X 6 _)).trans (grown_set _ X 7 _)⟩
set_option maxRecDepth 100000 in
theorem refcrash_any {X : Nat} {w : World} (H : EmptyD X w) (A : Option Addr) (n c : Nat) : Calls Tryz.prog 34 #[.pointer (some ⟨X, 0, none⟩), .slice A n c] w fun e w' => e = .returned (.tuple #[]) ∧ w.grownBy w' (some X) := by
  have c1 := H.cell 1
  have c2 := H.cell 2
  have c3 := H.cell 3
  have c4 := H.cell 4
  have c5 := H.cell 5
  have fr : ∀ k, w.frozen? ⟨X, k, none⟩ = false := fun k => H.free k
  have hx := H.lt
  clear H
  go_enter Tryz.func34, Tryz.ntmps34
  go_wp2
  go_loopw [24] (fun i wr => i = .int .i64 0 ∧ wr = w) (fun _ _ => 0)
  case atStart => exact ⟨rfl, rfl⟩
  case round =>
    obtain ⟨rfl, rfl⟩ := hrel
    go_wp2
    go_loopw [4] (fun _ wr2 => wr2 = wr) (fun _ _ => 0)
    case atStart => exact rfl
    case round =>
      obtain rfl := hrel
      go_wp2
      go_end0
      exact ⟨rfl, ((grown_set _ X 2 _).trans (grown_set _ X 5 _)).trans (grown_alloc _ _ _)⟩
end Go.Proofs.YtbodkjifpmencaaGreat
