/-
  Maps of names, of changes, of bodies as a disk has them; the walks of package vfs's size, strikes, begin, Fail, rest. Conditions: as each says.
-/
import Derived.Test.YtbodkjifpmencaaGreatVD
namespace Go.Proofs.YtbodkjifpmencaaGreat
open Go.RowKit
open Go.Lib
open Go.Maps (Keyed string_keyed int_keyed keyOf_int_mk)
open Go.ChangeMaps

theorem KS : Keyed Tryz.prog 9 := string_keyed Tryz.underlying9
theorem KI : Keyed Tryz.prog 3 := int_keyed Tryz.underlying3
theorem sk_str (a b : Bs) : (Lit.string a).sameKey (.string b) = decide (a = b) := by
  by_cases h : a = b
  · subst h; simp [Lit.sameKey]
  · simp [Lit.sameKey, h]
theorem sk_int (a b : Nat) : (Lit.int .i64 (a : Int)).sameKey (.int .i64 (b : Int)) = decide (a = b) := by
  by_cases h : a = b
  · subst h; simp [Lit.sameKey]
  · have : ¬ (a : Int) = (b : Int) := by omega
    rw [Maps.sameKey_ne (fun e => this (by injection e))]
    simp [h]
section
variable {β : Type} (f : β → Value)
theorem lookE_str (l : List (Bs × β)) (p : Bs) : lookE (l.map fun x => (Lit.string x.1, f x.2)) (.string p) = (look l p).map f := by
  unfold lookE look
  rw [List.find?_map]
  have : ((fun p_1 : Lit × Value => p_1.1.sameKey (.string p)) ∘ fun x : Bs × β => (Lit.string x.1, f x.2)) = fun x => decide (x.1 = p) := by
    funext x; exact sk_str _ _
  rw [this]
  cases l.find? (fun x => decide (x.1 = p)) <;> rfl
theorem dropE_str (l : List (Bs × β)) (p : Bs) : dropE (l.map fun x => (Lit.string x.1, f x.2)) (.string p) = (dropN l p).map fun x => (Lit.string x.1, f x.2) := by
  unfold dropE dropN
  rw [List.filter_map]
  congr 1
  refine List.filter_congr (fun x _ => ?_)
  show (!(Lit.string x.1).sameKey (.string p)) = _
  rw [sk_str]; simp
theorem putE_str (l : List (Bs × β)) (p : Bs) (k : β) : putE (l.map fun x => (Lit.string x.1, f x.2)) (.string p) (f k) = (putN l p k).map fun x => (Lit.string x.1, f x.2) := by
  unfold putE putN
  rw [dropE_str, List.map_append]; rfl
end
theorem look_entN (L : Lay) (n : Nm) (p : Bs) : lookE (entN L n) (.string p) = (look n p).map fun k => ptr (L.bl k) := lookE_str (fun k => ptr (L.bl k)) n p
theorem drop_entN (L : Lay) (n : Nm) (p : Bs) : dropE (entN L n) (.string p) = entN L (dropN n p) := dropE_str (fun k => ptr (L.bl k)) n p
theorem put_entN (L : Lay) (n : Nm) (p : Bs) (k : Nat) : putE (entN L n) (.string p) (ptr (L.bl k)) = entN L (putN n p k) := putE_str (fun k => ptr (L.bl k)) n p k
theorem look_entN_get (L : Lay) (n : Nm) (p : Bs) : (lookE (entN L n) (.string p)).getD (.pointer none) = ptrO L (look n p) := by
  rw [look_entN]; cases look n p <;> rfl
theorem drop_entL (L : Lay) (l : List (Nat × Unit)) (k : Nat) : dropE (entL L l) (.int .i64 (k : Int)) = entL L (dropN l k) := by
  unfold dropE dropN entL
  rw [List.filter_map]
  congr 1
  refine List.filter_congr (fun x _ => ?_)
  show (!(Lit.int .i64 (x.1 : Int)).sameKey (.int .i64 (k : Int))) = _
  rw [sk_int]; simp
theorem put_entL (L : Lay) (l : List (Nat × Unit)) (k : Nat) : putE (entL L l) (.int .i64 (k : Int)) (ptr (L.bl k)) = entL L (putN l k ()) := by
  unfold putE
  rw [drop_entL]
  unfold putN entL
  rw [List.map_append]; rfl
theorem look_entL (L : Lay) (l : List (Nat × Unit)) (k : Nat) (h : k ∈ l.map (·.1)) : lookE (entL L l) (.int .i64 (k : Int)) = some (ptr (L.bl k)) := by
  obtain ⟨x, hx, rfl⟩ := List.mem_map.1 h
  unfold lookE entL
  rw [List.find?_map]
  have : ((fun p : Lit × Value => p.1.sameKey (.int .i64 (x.1 : Int))) ∘ fun y : Nat × Unit => (Lit.int .i64 (y.1 : Int), ptr (L.bl y.1))) = fun y => decide (y.1 = x.1) := by
    funext y; exact sk_int _ _
  rw [this]
  cases hf : l.find? (fun y => decide (y.1 = x.1)) with
  | none => rw [List.find?_eq_none] at hf; exact absurd (hf x hx) (by simp)
  | some y =>
    have := List.find?_some hf
    simp at this
    simp [this]
theorem key_str (s : ByteArray) (h : s.size ≤ maxLen) : keyOf Tryz.prog 9 (.string s) = some (.string s.data.toList) := Go.WideMaps.keyOf_string_mk Tryz.underlying9 h
theorem key_bs (l : Bs) (h : l.length ≤ 281474976710656) : keyOf Tryz.prog 9 (.string (bs l)) = some (.string l) := by
  have := key_str (bs l) (by rw [bs_size]; unfold maxLen; omega)
  rwa [bs_list] at this
theorem key_nat (k : Nat) (h : k ≤ 1048576) : keyOf Tryz.prog 3 (.int .i64 (k : Int)) = some (.int .i64 (k : Int)) := keyOf_int_mk Tryz.underlying3 (WalkArith.wf_i64 (by omega))

/-! ### What a disk's cells hold -/
section
variable {L : Lay} {q : Q} {w : World}
theorem QD.c0 (H : QD L q w) : w.cell? ⟨L.d, 0, none⟩ = some (.int .i64 q.room) := H.disk.cell 0
theorem QD.c1 (H : QD L q w) : w.cell? ⟨L.d, 1, none⟩ = some (.map (some L.mn)) := H.disk.cell 1
theorem QD.c2 (H : QD L q w) : w.cell? ⟨L.d, 2, none⟩ = some (.map (some L.mq)) := H.disk.cell 2
theorem QD.c3 (H : QD L q w) : w.cell? ⟨L.d, 3, none⟩ = some (.map (some L.mc)) := H.disk.cell 3
theorem QD.c4 (H : QD L q w) : w.cell? ⟨L.d, 4, none⟩ = some (.map (some L.ml)) := H.disk.cell 4
theorem QD.c5 (H : QD L q w) : w.cell? ⟨L.d, 5, none⟩ = some (.int .i64 (q.bodies.length : Int)) := H.disk.cell 5
theorem QD.c6 (H : QD L q w) : w.cell? ⟨L.d, 6, none⟩ = some (.bool q.told) := H.disk.cell 6
theorem QD.c7 (H : QD L q w) : w.cell? ⟨L.d, 7, none⟩ = some (.int .i64 q.ahead) := H.disk.cell 7
theorem QD.c8 (H : QD L q w) : w.cell? ⟨L.d, 8, none⟩ = some (.bool q.once) := H.disk.cell 8
theorem QD.free (H : QD L q w) (j : Nat) : w.frozen? ⟨L.d, j, none⟩ = false := H.disk.free j
theorem QD.b0 (H : QD L q w) {k : Nat} (hk : k < q.bodies.length) : w.cell? ⟨L.bl k, 0, none⟩ = some (.int .i64 (k : Int)) := (H.bod k hk).cell 0
theorem QD.b1 (H : QD L q w) {k : Nat} (hk : k < q.bodies.length) : w.cell? ⟨L.bl k, 1, none⟩ = some (L.bv k) := (H.bod k hk).cell 1
theorem QD.b2 (H : QD L q w) {k : Nat} (hk : k < q.bodies.length) : w.cell? ⟨L.bl k, 2, none⟩ = some (.int .i64 ((qbody q k).kept : Int)) := (H.bod k hk).cell 2
end
/-! ### size, rest -/
set_option maxRecDepth 100000 in
theorem size_nil (w : World) : Calls Tryz.prog 37 #[.pointer none] w fun e w' => e = .returned (.int .i64 0) ∧ w = w' := by
  go_enter Tryz.func37, Tryz.ntmps37
  go_wp2
  go_ret
  exact ⟨rfl, rfl⟩
set_option maxRecDepth 100000 in
theorem size_at (b : Nat) (A : Option Addr) (n c : Nat) (w : World) (hc : w.cell? ⟨b, 1, none⟩ = some (.slice A n c)) : Calls Tryz.prog 37 #[ptr b] w fun e w' => e = .returned (.int .i64 n) ∧ w = w' := by
  unfold ptr
  go_enter Tryz.func37, Tryz.ntmps37
  go_wp2
  go_ret
  exact ⟨rfl, rfl⟩
theorem size_any {L : Lay} {q : Q} {w : World} (H : QD L q w) (o : Option Nat) (ho : ∀ k, o = some k → k < q.bodies.length) : Calls Tryz.prog 37 #[ptrO L o] w fun e w' => e = .returned (.int .i64 (sizeO q o : Int)) ∧ w = w' := by
  cases o with
  | none => exact size_nil w
  | some k =>
    have hk := ho k rfl
    obtain ⟨A, c, hv, _, _, _⟩ := (H.row k hk).read
    exact size_at (L.bl k) A (qbody q k).now.length c w (by rw [H.b1 hk, hv])
theorem emod_cases (n b : Int) (hb : 0 < b) : n % b = if n.tmod b < 0 then n.tmod b + b else n.tmod b := by
  have h1 := Int.tmod_eq_emod (a := n) (b := b)
  have h2 := Int.emod_nonneg n (b := b) (by omega)
  have h3 := Int.emod_lt_of_pos n hb
  have h4 : (b.natAbs : Int) = b := by omega
  split at h1
  · rw [h1]; split <;> omega
  · rename_i h
    have h5 : n % b ≠ 0 := fun e => h (.inr (Int.dvd_of_emod_eq_zero e))
    rw [h1, h4]; split <;> omega
set_option maxRecDepth 100000 in
theorem rest_any (n b : Int) (w : World) (hb : 0 < b) (hb2 : b ≤ 9223372036854775807) (_h0 : -9223372036854775808 ≤ n) (_h1 : n ≤ 9223372036854775807) : Calls Tryz.prog 51 #[.int .i64 n, .int .i64 b] w fun e w' => e = .returned (.int .i64 (n % b)) ∧ w = w' := by
  have HE := Lib.hid (emod_cases n b hb)
  go_enter Tryz.func51, Tryz.ntmps51
  go_wp2
  · rename_i h
    have h2 := Int.emod_nonneg n (b := b) (by omega)
    have h3 := Int.emod_lt_of_pos n hb
    have e := HE.out
    rw [if_pos h] at e
    go_ret
    exact ⟨ret_int (by rw [IntWalk.wrap64_in _ (by omega), e]), rfl⟩
  · rename_i h
    have e := HE.out
    rw [if_neg (by omega)] at e
    go_ret
    exact ⟨ret_int e.symm, rfl⟩
/-! ### A call that fails -/
theorem Step.setD {L : Lay} {q : Q} {w w' : World} (H : QD L q w) (g : w.grownBy w' (some L.d)) (q' : Q) (h1 : q'.bodies = q.bodies) (h2 : q'.names = q.names) (h3 : q'.kept = q.kept) (h4 : q'.changes = q.changes) (h5 : q'.loose = q.loose) (hd : Blk L.d (.cells (dcells L q') TD (0, 0)) w') : Step L q w L q' w' :=
  ⟨rfl, H.setD g q' h1 h2 h3 h4 h5 hd, (Off.of_grown g).mono (fun _ h => .inl (Option.some.inj h).symm), fun b hb => .inl (by unfold foot at *; rw [h1, h4] at hb; exact hb)⟩
set_option maxRecDepth 100000 in
theorem strikes_any {L : Lay} {q : Q} {w : World} (H : QD L q w) (a0 : -9223372036854775808 ≤ q.ahead) (a1 : q.ahead ≤ 9223372036854775807) : Calls Tryz.prog 67 #[.pointer (some ⟨L.d, 6, none⟩)] w fun e w' => e = .returned (.bool (strikeQ q).1) ∧ Step L q w L (strikeQ q).2 w' := by
  have c6 := H.c6
  have c7 := H.c7
  have c8 := H.c8
  have f6 := H.free 6
  have f7 := H.free 7
  cases ht : q.told
  · rw [ht] at c6
    have HS : Hid (strikeQ q = (false, q)) := Lib.hid (by unfold strikeQ; rw [ht]; rfl)
    have HH := Lib.hid H
    clear H ht
    go_enter Tryz.func67, Tryz.ntmps67
    go_wp2
    go_ret
    rw [HS.out]
    exact ⟨rfl, Step.refl HH.out⟩
  · rw [ht] at c6
    by_cases hp : 0 < q.ahead
    · have HS : Hid (strikeQ q = (false, { q with ahead := q.ahead - 1 })) := Lib.hid (by unfold strikeQ; rw [ht, if_pos rfl, if_pos hp])
      have HH := Lib.hid H
      have HT := Lib.hid ht
      clear H ht
      go_enter Tryz.func67, Tryz.ntmps67
      go_wp2
      go_ret
      rw [HS.out]
      exact ⟨rfl, Step.setD HH.out (grown_set _ _ _ _) { q with ahead := q.ahead - 1 } rfl rfl rfl rfl rfl (HH.out.disk.set 7 (.int .i64 (q.ahead - 1)))⟩
    · have HS : Hid (strikeQ q = (true, { q with told := !q.once })) := Lib.hid (by unfold strikeQ; rw [ht, if_pos rfl, if_neg hp])
      have HH := Lib.hid H
      clear H ht
      go_enter Tryz.func67, Tryz.ntmps67
      go_wp2
      go_ret
      rw [HS.out]
      exact ⟨rfl, Step.setD HH.out (grown_set _ _ _ _) { q with told := !q.once } rfl rfl rfl rfl rfl (HH.out.disk.set 6 (.bool (!q.once)))⟩
theorem begin_fst (q : Q) (x : Bool) (h : (strikeQ q).1 = x) : beginQ q true = (if x then 62 else 0, (strikeQ q).2) := by
  unfold beginQ
  rw [if_pos rfl]
  revert h
  generalize strikeQ q = s
  obtain ⟨a, b⟩ := s
  intro h
  subst h
  cases a <;> rfl
set_option maxRecDepth 100000 in
theorem begin_nil (r : Bool) (w : World) : Calls Tryz.prog 42 #[.pointer none, .bool r] w fun e w' => e = .returned (.int .i64 1) ∧ w = w' := by
  go_enter Tryz.func42, Tryz.ntmps42
  go_wp2
  go_ret
  exact ⟨rfl, rfl⟩
set_option maxRecDepth 100000 in
theorem begin_any {L : Lay} {q : Q} {w : World} (H : QD L q w) (r : Bool) (a0 : -9223372036854775808 ≤ q.ahead) (a1 : q.ahead ≤ 9223372036854775807) : Calls Tryz.prog 42 #[ptr L.d, .bool r] w fun e w' => e = .returned (.int .i64 (beginQ q r).1) ∧ Step L q w L (beginQ q r).2 w' := by
  unfold ptr
  cases r
  · have HS : Hid (beginQ q false = (2, q)) := Lib.hid rfl
    have HH := Lib.hid H
    clear H
    go_enter Tryz.func42, Tryz.ntmps42
    go_wp2
    go_ret
    rw [HS.out]
    exact ⟨rfl, Step.refl HH.out⟩
  · have hs := strikes_any H a0 a1
    obtain ⟨x, hx⟩ : ∃ x, (strikeQ q).1 = x := ⟨_, rfl⟩
    have HS := Lib.hid (begin_fst q x hx)
    rw [hx] at hs
    clear hx H
    cases x
    all_goals
      go_enter Tryz.func42, Tryz.ntmps42
      go_wp2_with (go_at_call 67; (with_reducible refine hs.mono ?_); rintro e w' ⟨rfl, st⟩)
      go_ret
      rw [HS.out]
      exact ⟨rfl, st⟩
end Go.Proofs.YtbodkjifpmencaaGreat
