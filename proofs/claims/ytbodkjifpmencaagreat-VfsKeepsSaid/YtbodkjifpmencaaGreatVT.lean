/-
  The walks of bytes.Clone and of package vfs's Read, New, Fail, stay. Conditions: a disk of a modest size.
-/
import Derived.Test.YtbodkjifpmencaaGreatVR
import Derived.Lib.SliceRun
namespace Go.Proofs.YtbodkjifpmencaaGreat
open Go.RowKit
open Go.Lib

set_option maxRecDepth 100000 in
theorem bclone_any (l : Bs) (A : Option Addr) (c : Nat) (w : World) (hA : RB w A l) (hl : l.length ≤ 1073741824) : Calls Tryz.prog 35 #[.slice A l.length c] w fun e w' => ∃ v, e = .returned v ∧ OwnB w' w.heap.size v l ∧ Below w.heap.size w w' := by
  obtain ⟨i0, hi, hz0, hz1, hz2⟩ := info_parts Tryz.infoU8
  have hq := fun (W : World) (a : Option Addr) (n c : Nat) => Lib.run_eql_slice_nil (P := Tryz.prog) W 28 5 a n c 0 0 Tryz.underlying28
  cases A with
  | none =>
    have h0 : l = [] := by
      cases l with
      | nil => rfl
      | cons x r => obtain ⟨b, off, h, _⟩ := hA (by simp); cases h
    subst h0
    clear hA
    go_enter Tryz.func35, Tryz.ntmps35
    go_wp2
    go_ret
    exact ⟨_, rfl, World.ownsRow_nil _ _ _ _, Below.refl _ _⟩
  | some a =>
    have hcs : ∀ o, ∀ j u, (cellsB l)[j]? = some u → (w.alloc o).cell? (a.add j) = some u := by
      intro o j u hj
      have hjl : j < l.length := by have := (List.getElem?_eq_some_iff.1 hj).1; rwa [cellsB_length] at this
      obtain ⟨b, off, he, hb, hc⟩ := hA (by omega)
      cases he
      rw [cellsB_at _ j hjl] at hj
      rw [Addr.add_mid]
      exact (grown_alloc w o none).cell ((hc j hjl).trans hj) (by simp)
    have HC := Lib.hid hcs
    obtain ⟨n, hn⟩ : ∃ n, l.length = n := ⟨_, rfl⟩
    have HN := Lib.hid hn
    have hrow : ∀ o, o = Obj.cells #[] 5 → (w.alloc o).ownsRow w.heap.size 5 1 (.slice (some ⟨w.heap.size, 0, none⟩) 0 0) 0 [] := fun o ho => by rw [ho]; exact World.ownsRow_made w #[] 0 (Nat.le_refl _) (Nat.zero_le _) rfl
    have HR := Lib.hid hrow
    rw [hn] at hl ⊢
    clear hcs hA hn hrow
    go_enter Tryz.func35, Tryz.ntmps35
    go_wp2_with (at_builtin; refine wpList_append_own _ rfl _ _ 28 rfl w.heap.size 5 i0 (.int .u8 0) 1 1 Tryz.underlying28 hi hz0 hz1 hz2 rfl (by decide) (.slice (some ⟨w.heap.size, 0, none⟩) 0 0) 0 [] rfl (HR.out _ rfl) a n c (cellsB l) rfl (by rw [cellsB_length, HN.out]; simp) (HC.out _) (cellsB_one _) (by unfold maxLen; omega) (by omega) (by simp) ?_; intro v' w1 hown' hg1 _)
    go_ret
    refine ⟨v', rfl, ?_, ?_⟩
    · unfold OwnB
      rw [HN.out]
      simpa using hown'
    · exact ((Below.refl _ _).alloc (Nat.le_refl _) _).grown hg1 (by simp) (fun j hj => by simp [Value.ownBlock] at hj; omega)
/-- What is read. -/
def ReadOut (q : Q) (p : Bs) (w : World) (e : Ending) (w' : World) : Prop :=
  (match look q.names p with | none => e = .returned (.tuple #[.slice none 0 0, .int .i64 60]) | some k => ∃ v, e = .returned (.tuple #[v, .int .i64 0]) ∧ OwnB w' w.heap.size v (qbody q k).now) ∧ Below w.heap.size w w'
set_option maxRecDepth 100000 in
theorem read_any {L : Lay} {q : Q} {w : World} (H : QD L q w) {N : Nat} (hS : Small N q) (hN : N ≤ 1048576) (s : ByteArray) (hs : s.size ≤ 281474976710656) : Calls Tryz.prog 10 #[ptr L.d, .string s] w (ReadOut q s.data.toList w) := by
  have HK := Lib.hid (key_str s (by unfold maxLen; omega))
  have hm := H.names
  have c1 := H.c1
  obtain ⟨G, hG⟩ : ∃ G, look q.names s.data.toList = G := ⟨_, rfl⟩
  have HG := Lib.hid hG
  unfold ReadOut
  rw [hG]
  unfold ptr
  cases G with
  | none =>
    clear hG H hS
    go_enter Tryz.func10, Tryz.ntmps10
    go_wp2_with (at_lookup; refine wpList_lookup_map _ rfl _ _ 54 rfl 9 70 KS Tryz.underlying54 (.pointer none) (zeroP _) L.mn _ rfl hm _ _ rfl HK.out (.pointer none) (by rw [look_entN_get, HG.out]; rfl) ?_)
    go_ret2
    exact ⟨rfl, Below.refl _ _⟩
  | some k =>
    have hkl := hS.name hG
    obtain ⟨A, c, hv, _, hRB, _⟩ := (H.row k hkl).read
    have b1 := H.b1 hkl
    rw [hv] at b1
    have hcl := bclone_any (qbody q k).now A c w hRB (by have := (hS.body k).1; omega)
    have HCL := Lib.hid hcl
    obtain ⟨n, hn⟩ : ∃ n, (qbody q k).now.length = n := ⟨_, rfl⟩
    rw [hn] at b1 HCL
    clear hcl hv hRB hn hG H hS
    go_enter Tryz.func10, Tryz.ntmps10
    go_wp2_with (first
      | (at_lookup; refine wpList_lookup_map _ rfl _ _ 54 rfl 9 70 KS Tryz.underlying54 (.pointer none) (zeroP _) L.mn _ rfl hm _ _ rfl HK.out (.pointer (some ⟨L.bl k, 0, none⟩)) (by rw [look_entN_get, HG.out]; rfl) ?_)
      | (go_at_call 35; (with_reducible refine HCL.out.mono ?_); rintro e w1 ⟨v, rfl, hown, hb⟩))
    go_ret2
    exact ⟨⟨v, rfl, hown⟩, hb⟩
set_option maxRecDepth 100000 in
theorem read_nil (s : ByteArray) (w : World) : Calls Tryz.prog 10 #[.pointer none, .string s] w fun e w' => e = .returned (.tuple #[.slice none 0 0, .int .i64 1]) ∧ w = w' := by
  go_enter Tryz.func10, Tryz.ntmps10
  go_wp2
  go_ret2
  exact ⟨rfl, rfl⟩
set_option maxRecDepth 100000 in
theorem fail_any {L : Lay} {q : Q} {w : World} (H : QD L q w) (calls : Int) (once : Bool) : Calls Tryz.prog 24 #[ptr L.d, .int .i64 calls, .bool once] w fun e w' => e = .returned (.tuple #[]) ∧ Step L q w L (failQ q calls once) w' := by
  have c6 := H.c6
  have c7 := H.c7
  have c8 := H.c8
  have fr := H.free
  have HH := Lib.hid H
  clear H
  unfold ptr
  go_enter Tryz.func24, Tryz.ntmps24
  go_wp2
  go_end0
  have hd := ((HH.out.disk.set 6 (.bool true)).set 7 (.int .i64 calls)).set 8 (.bool once)
  have g1 := grown_set w L.d 6 (.bool true)
  have g2 := g1.trans (grown_set (w.setCell ⟨L.d, 6, none⟩ (.bool true)) L.d 7 (.int .i64 calls))
  have g3 := g2.trans (grown_set ((w.setCell ⟨L.d, 6, none⟩ (.bool true)).setCell ⟨L.d, 7, none⟩ (.int .i64 calls)) L.d 8 (.bool once))
  exact ⟨rfl, Step.setD HH.out g3 (failQ q calls once) rfl rfl rfl rfl rfl hd⟩
set_option maxRecDepth 100000 in
theorem fail_nil (calls : Int) (once : Bool) (w : World) : Calls Tryz.prog 24 #[.pointer none, .int .i64 calls, .bool once] w fun e w' => e = .returned (.tuple #[]) ∧ w = w' := by
  go_enter Tryz.func24, Tryz.ntmps24
  go_wp2
  first
    | (go_end0; exact ⟨rfl, rfl⟩)
    | (refine bodyPost_ret (results_none rfl _ _ _) rfl ?_; exact ⟨rfl, rfl⟩)
end Go.Proofs.YtbodkjifpmencaaGreat
