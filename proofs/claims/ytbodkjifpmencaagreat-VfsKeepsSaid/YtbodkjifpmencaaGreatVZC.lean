/-
  The calls of package vfs on a disk that a call has made itself. Conditions: a disk of a modest size.
-/
import Derived.Test.YtbodkjifpmencaaGreatVfT
namespace Go.Proofs.YtbodkjifpmencaaGreat
open Go.RowKit
open Go.Lib

/-- A disk that a call has made itself, since w0. -/
def Mine (w0 : World) (D : Nat) (q : Q) (W : World) : Prop := ∃ L, L.d = D ∧ QD L q W ∧ Below w0.heap.size w0 W ∧ ∀ b, foot L q b → w0.heap.size ≤ b
theorem Mine.under {w0 : World} {D : Nat} {q : Q} {W : World} (h : Mine w0 D q W) : Below w0.heap.size w0 W := by obtain ⟨_, _, _, h, _⟩ := h; exact h
theorem Mine.below {w0 : World} {D : Nat} {q : Q} {W W' : World} (h : Mine w0 D q W) (hb : Below W.heap.size W W') : Mine w0 D q W' := by
  obtain ⟨L, h1, h2, h3, h4⟩ := h
  exact ⟨L, h1, h2.below hb, h3.trans (hb.mono h3.size), h4⟩
theorem Mine.alloc {w0 : World} {D : Nat} {q : Q} {W : World} (h : Mine w0 D q W) (o : Obj) : Mine w0 D q (W.alloc o) := h.below ((Below.refl _ _).alloc (Nat.le_refl _) _)
theorem Mine.drew {w0 : World} {D : Nat} {q : Q} {W : World} (h : Mine w0 D q W) : Mine w0 D q W.drew := by
  obtain ⟨L, h1, h2, h3, h4⟩ := h
  exact ⟨L, h1, h2.drew, h3.trans (Off.below (F := fun _ => False) (Off.drew (Off.refl _ W)) (fun _ h => h.elim) |>.mono h3.size), h4⟩
theorem Mine.step {w0 : World} {L L' : Lay} {q q' : Q} {w w' : World} (hs : Step L q w L' q' w') (hb : Below w0.heap.size w0 w) (hf : ∀ b, foot L q b → w0.heap.size ≤ b) : Mine w0 L.d q' w' :=
  ⟨L', hs.d, hs.to, hb.trans ⟨hs.off.os, hs.off.tape, hs.off.output, hs.off.size, fun k hk => hs.off.block k (Nat.lt_of_lt_of_le hk hb.size) (fun h => absurd hk (Nat.not_lt.2 (hf k h)))⟩, fun b hb' => (hs.own b hb').elim (hf b) (fun h => Nat.le_trans hb.size h)⟩
theorem mine_new {w0 : World} (room : Int) (w : World) (hb : Below w0.heap.size w0 w) : Calls Tryz.prog 7 #[.int .i64 room] w fun e w' => ∃ D, e = .returned (.pointer (some ⟨D, 0, none⟩)) ∧ Mine w0 D (qNew room) w' :=
  (new_any room w).mono fun _e _w' ⟨L, h1, h2, h3, h4⟩ => ⟨L.d, h1, L, rfl, h2, hb.trans (h3.mono hb.size), fun b h => Nat.le_trans hb.size (h4 b h)⟩
section
variable {w0 V W : World} {D N : Nat} {q q' : Q} {e : Int}
theorem mine_write (M : Mine w0 D q V) (hb : Below V.heap.size V W) (hS : Small N q) (s : ByteArray) (hs : s.size ≤ 281474976710656) (b : Bs) (n : Nat) (hn : b.length = n) (A : Option Addr) (c : Nat) (hA : RB W A b) (hAF : 0 < n → ∀ x, aBlock A = some x → x < w0.heap.size ∨ V.heap.size ≤ x) (hN : N + 3 + n ≤ 1048576) (hq : writeQ q s.data.toList b = (e, q')) :
    Calls Tryz.prog 18 #[.pointer (some ⟨D, 0, none⟩), .string s, .slice A n c] W fun x w' => x = .returned (.int .i64 e) ∧ Mine w0 D q' w' := by
  obtain ⟨L, rfl, h2, h3, h4⟩ := M
  subst hn
  have hno : 0 < b.length → ∀ x, aBlock A = some x → ¬ foot L q x := fun hz x hx hf => by
    rcases hAF hz x hx with h | h
    · have := h4 x hf; omega
    · have := h2.foot_lt hf; omega
  have h := write_any (h2.below hb) hS s hs b A c hA hno hN
  rw [hq] at h
  exact h.mono fun x w' ⟨k1, L', k2⟩ => ⟨k1, Mine.step k2 (h3.trans (hb.mono h3.size)) h4⟩
theorem mine_append (M : Mine w0 D q V) (hb : Below V.heap.size V W) (hS : Small N q) (s : ByteArray) (hs : s.size ≤ 281474976710656) (b : Bs) (n : Nat) (hn : b.length = n) (A : Option Addr) (c : Nat) (hA : RB W A b) (hAF : 0 < n → ∀ x, aBlock A = some x → x < w0.heap.size ∨ V.heap.size ≤ x) (hN : N + 3 + n ≤ 1048576) (hq : appendQ q s.data.toList b = (e, q')) :
    Calls Tryz.prog 21 #[.pointer (some ⟨D, 0, none⟩), .string s, .slice A n c] W fun x w' => x = .returned (.int .i64 e) ∧ Mine w0 D q' w' := by
  obtain ⟨L, rfl, h2, h3, h4⟩ := M
  subst hn
  have hno : 0 < b.length → ∀ x, aBlock A = some x → ¬ foot L q x := fun hz x hx hf => by
    rcases hAF hz x hx with h | h
    · have := h4 x hf; omega
    · have := h2.foot_lt hf; omega
  have h := append_any (h2.below hb) hS s hs b A c hA hno hN
  rw [hq] at h
  exact h.mono fun x w' ⟨k1, L', k2⟩ => ⟨k1, Mine.step k2 (h3.trans (hb.mono h3.size)) h4⟩
theorem mine_rename (M : Mine w0 D q W) (hS : Small N q) (hN : N ≤ 1048576) (s t : ByteArray) (hs : s.size ≤ 281474976710656) (ht : t.size ≤ 281474976710656) (hq : renameQ q s.data.toList t.data.toList = (e, q')) :
    Calls Tryz.prog 27 #[.pointer (some ⟨D, 0, none⟩), .string s, .string t] W fun x w' => x = .returned (.int .i64 e) ∧ Mine w0 D q' w' := by
  obtain ⟨L, rfl, h2, h3, h4⟩ := M
  have h := rename_any h2 hS hN s t hs ht
  rw [hq] at h
  exact h.mono fun x w' ⟨k1, L', k2⟩ => ⟨k1, Mine.step k2 h3 h4⟩
theorem mine_remove (M : Mine w0 D q W) (hS : Small N q) (hN : N ≤ 1048576) (s : ByteArray) (hs : s.size ≤ 281474976710656) (hq : removeQ q s.data.toList = (e, q')) :
    Calls Tryz.prog 29 #[.pointer (some ⟨D, 0, none⟩), .string s] W fun x w' => x = .returned (.int .i64 e) ∧ Mine w0 D q' w' := by
  obtain ⟨L, rfl, h2, h3, h4⟩ := M
  have h := remove_any h2 hS hN s hs
  rw [hq] at h
  exact h.mono fun x w' ⟨k1, L', k2⟩ => ⟨k1, Mine.step k2 h3 h4⟩
theorem mine_sync (M : Mine w0 D q W) (hS : Small N q) (hN : N ≤ 1048576) (s : ByteArray) (hs : s.size ≤ 281474976710656) (hq : syncQ q s.data.toList = (e, q')) :
    Calls Tryz.prog 19 #[.pointer (some ⟨D, 0, none⟩), .string s] W fun x w' => x = .returned (.int .i64 e) ∧ Mine w0 D q' w' := by
  obtain ⟨L, rfl, h2, h3, h4⟩ := M
  have h := sync_any h2 hS hN s hs
  rw [hq] at h
  exact h.mono fun x w' ⟨k1, L', k2⟩ => ⟨k1, Mine.step k2 h3 h4⟩
theorem mine_syncDir (M : Mine w0 D q W) (hS : Small N q) (hN : N ≤ 1048576) (s : ByteArray) (hs : s.size ≤ 281474976710656) (hq : syncDirQ q s.data.toList = (e, q')) :
    Calls Tryz.prog 20 #[.pointer (some ⟨D, 0, none⟩), .string s] W fun x w' => x = .returned (.int .i64 e) ∧ Mine w0 D q' w' := by
  obtain ⟨L, rfl, h2, h3, h4⟩ := M
  have h := syncDir_any h2 hS hN s hs
  rw [hq] at h
  exact h.mono fun x w' ⟨k1, L', k2⟩ => ⟨k1, Mine.step k2 h3 h4⟩
theorem mine_fail (M : Mine w0 D q W) (calls : Int) (once : Bool) :
    Calls Tryz.prog 24 #[.pointer (some ⟨D, 0, none⟩), .int .i64 calls, .bool once] W fun x w' => x = .returned (.tuple #[]) ∧ Mine w0 D (failQ q calls once) w' := by
  obtain ⟨L, rfl, h2, h3, h4⟩ := M
  exact (fail_any h2 calls once).mono fun x w' ⟨k1, k2⟩ => ⟨k1, Mine.step k2 h3 h4⟩
theorem mine_crash (M : Mine w0 D q V) (hb : Below V.heap.size V W) (hS : Small N q) (hN : N ≤ 1048576) (ks : List Int) (n : Nat) (hn : ks.length = n) (A : Option Addr) (c : Nat) (hA : RI W A ks) (hR : Range ks) (hkl : ks.length ≤ 1048576) (hc : ks.length ≤ c) (hAF : 0 < ks.length → ∀ x, aBlock A = some x → x < w0.heap.size ∨ V.heap.size ≤ x) (hq : crashQ q ks = q') :
    Calls Tryz.prog 22 #[.pointer (some ⟨D, 0, none⟩), .slice A n c] W fun x w' => x = .returned (.tuple #[]) ∧ Mine w0 D q' w' := by
  obtain ⟨L, rfl, h2, h3, h4⟩ := M
  subst hn
  have hno : 0 < ks.length → ∀ x, aBlock A = some x → ¬ foot L q x := fun hz x hx hf => by
    rcases hAF hz x hx with h | h
    · have := h4 x hf; omega
    · have := h2.foot_lt hf; omega
  have h := crash_any (h2.below hb) hS hN ks A c hA hR hkl hc hno
  rw [hq] at h
  exact h.mono fun x w' ⟨k1, L', k2⟩ => ⟨k1, Mine.step k2 (h3.trans (hb.mono h3.size)) h4⟩
theorem mine_used (M : Mine w0 D q W) (hS : Small N q) (hN : N ≤ 1048576) (u : Nat) (hu : usedQ q = u) :
    Calls Tryz.prog 12 #[.pointer (some ⟨D, 0, none⟩)] W fun x w' => x = .returned (.int .i64 (u : Int)) ∧ Mine w0 D q w' := by
  have M' := M
  obtain ⟨L, rfl, h2, h3, h4⟩ := M
  subst hu
  exact (used_any h2 hS hN).mono fun x w' ⟨k1, k2⟩ => ⟨k1, M'.below k2⟩
theorem mine_list (M : Mine w0 D q W) (hS : Small N q) (hN : N ≤ 1048576) (s : ByteArray) (ls : List Bs) (hq : listQ q s.data.toList = ls) :
    Calls Tryz.prog 16 #[.pointer (some ⟨D, 0, none⟩), .string s] W fun x w' => ∃ A c, x = .returned (.slice A ls.length c) ∧ RT w' A ls ∧ (∀ b, aBlock A = some b → W.heap.size ≤ b ∧ b < w'.heap.size) ∧ Below W.heap.size W w' ∧ Mine w0 D q w' := by
  have M' := M
  obtain ⟨L, rfl, h2, h3, h4⟩ := M
  subst hq
  refine (list_any h2 hS hN s).mono fun x w' ⟨v, k1, k2, k3⟩ => ?_
  obtain ⟨A, c, rfl, k4, k5, _⟩ := rt_of_row k2
  exact ⟨A, c, k1, k4, k5, k3, M'.below k3⟩
theorem mine_read (M : Mine w0 D q W) (hS : Small N q) (hN : N ≤ 1048576) (s : ByteArray) (hs : s.size ≤ 281474976710656) (b : Bs) (hq : readQ q s.data.toList = some b) :
    Calls Tryz.prog 10 #[.pointer (some ⟨D, 0, none⟩), .string s] W fun x w' => ∃ v, x = .returned (.tuple #[v, .int .i64 0]) ∧ OwnB w' W.heap.size v b ∧ Below W.heap.size W w' ∧ Mine w0 D q w' := by
  have M' := M
  obtain ⟨L, rfl, h2, h3, h4⟩ := M
  refine (read_any h2 hS hN s hs).mono fun x w' ⟨k1, k2⟩ => ?_
  unfold readQ at hq
  cases hl : look q.names s.data.toList with
  | none => rw [hl] at hq; cases hq
  | some k =>
    rw [hl] at hq k1
    injection hq with hq
    obtain ⟨v, k3, k4⟩ := k1
    exact ⟨v, k3, by rw [← hq]; exact k4, k2, M'.below k2⟩
theorem mine_read_none (M : Mine w0 D q W) (hS : Small N q) (hN : N ≤ 1048576) (s : ByteArray) (hs : s.size ≤ 281474976710656) (hq : readQ q s.data.toList = none) :
    Calls Tryz.prog 10 #[.pointer (some ⟨D, 0, none⟩), .string s] W fun x w' => x = .returned (.tuple #[.slice none 0 0, .int .i64 60]) ∧ Mine w0 D q w' := by
  have M' := M
  obtain ⟨L, rfl, h2, h3, h4⟩ := M
  refine (read_any h2 hS hN s hs).mono fun x w' ⟨k1, k2⟩ => ?_
  unfold readQ at hq
  cases hl : look q.names s.data.toList with
  | none => rw [hl] at k1; exact ⟨k1, M'.below k2⟩
  | some k => rw [hl] at hq; cases hq
end
/-! ### A concrete disk -/
def F1 : Q := ⟨100, [⟨[120, 121], 0⟩], [([97], 0)], [], [([], [⟨[97], [97], some 0⟩])], [(0, ())], false, 0, false⟩
def F2 : Q := ⟨100, [⟨[120, 121], 2⟩], [([97], 0)], [], [([], [⟨[97], [97], some 0⟩])], [], false, 0, false⟩
def F3 : Q := ⟨100, [⟨[120, 121], 2⟩], [], [], [], [], false, 0, false⟩
def F4 : Q := ⟨100, [⟨[120, 121], 2⟩, ⟨[120, 121], 0⟩], [([97], 1)], [], [([], [⟨[97], [97], some 1⟩])], [(1, ())], false, 0, false⟩
def F5 : Q := ⟨100, [⟨[120, 121], 2⟩, ⟨[120, 121], 0⟩], [([97], 1)], [([97], 1)], [], [(1, ())], false, 0, false⟩
def F6 : Q := ⟨100, [⟨[120, 121], 2⟩, ⟨[120], 1⟩], [([97], 1)], [([97], 1)], [], [], false, 0, false⟩
theorem F1_eq : writeQ (qNew 100) [97] [120, 121] = (0, F1) := by rfl
theorem F2_eq : syncQ F1 [97] = (0, F2) := by rfl
theorem F3_eq : crashQ F2 [] = F3 := by
  unfold crashQ crashB crashA
  simp only [F2, List.map_nil, List.map_cons, List.mergeSort_nil, List.mergeSort_singleton, List.foldl_nil, List.foldl_cons]
  rfl
theorem F3_list : listQ F3 [] = [] := by unfold listQ F3; simp
theorem F4_eq : writeQ F3 [97] [120, 121] = (0, F4) := by rfl
theorem F5_eq : syncDirQ F4 [] = (0, F5) := by rfl
theorem F6_a : crashA F5 [1] = ({ F6 with loose := [(1, ())] }, []) := by
  unfold crashA
  simp only [F5, List.map_nil, List.map_cons, List.mergeSort_singleton, List.foldl_nil, List.foldl_cons]
  rfl
theorem F6_eq : crashQ F5 [1] = F6 := by
  unfold crashQ
  rw [F6_a]
  unfold crashB
  simp only [F6, List.map_nil, List.mergeSort_nil, List.foldl_nil]
theorem F6_read : readQ F6 [97] = some [120] := by rfl
theorem F6_used : usedQ F6 = 1 := by rfl
theorem F7_eq : writeQ F6 [98, 47, 46, 46] [] = (2, F6) := by rfl
theorem F8_eq : writeQ F6 [98] (List.replicate 100 0) = (61, F6) := by rfl
theorem S0 : Small 20 (qNew 100) := (Small.new 100 (by decide)).mono (by decide)
theorem S1 : Small 20 F1 := by have := (Small.new 100 (by decide)).write [97] [120, 121]; rw [F1_eq] at this; exact this.mono (by decide)
theorem S2 : Small 20 F2 := by have := S1.sync [97]; rw [F2_eq] at this; exact this
theorem S3 : Small 20 F3 := by have := S2.crash []; rw [F3_eq] at this; exact this
theorem S4 : Small 30 F4 := by have := S3.write [97] [120, 121]; rw [F4_eq] at this; exact this.mono (by decide)
theorem S5 : Small 30 F5 := by have := S4.syncDir []; rw [F5_eq] at this; exact this
theorem S6 : Small 30 F6 := by have := S5.crash [1]; rw [F6_eq] at this; exact this
end Go.Proofs.YtbodkjifpmencaaGreat
