/-
  Slices that came in, appended. No conditions.
-/
import Derived.Test.YtkgmkblcofedbaaDoorRS
import Derived.Test.YtkgmkblcofedbaaDoorSF
namespace Go.Proofs.YtkgmkblcofedbaaDoor
open Go.RowKit
open Go.Lib

/-- A slice that came in behind a new empty one. -/
theorem appIn2 {ops : Array Oper} {rest : List Oper} {o : Oper} {a : Act} {Q : Exit → Act → World → Prop} (hgd : o.guard = none) (s x : Operand)
    (ho : o.op = .call { callee := .builtin .append, args := #[s, x], argTypes := #[22, 22] }) (w w0 : World) (B : Nat) (l : List UInt8) (n c : Nat) (A : Option Addr) (hn : l.length = n) (hA : A = none → c = 0)
    (hs : a.eval s = .slice (some ⟨w.heap.size, 0, none⟩) 0 0) (hx : a.eval x = .slice A n c) (hr : RB w A l) (hlen : n ≤ 10000000) (hB : B ≤ w.heap.size) (hb : Below B w0 w)
    (h : ∀ v w', OwnB w' w.heap.size v l → v ≠ .slice none 0 0 → Below B w0 w' → wpList Tryd.prog ops Q rest (a.put o.dst v) w') :
    wpList Tryd.prog ops Q (o :: rest) a (w.alloc (.cells #[] 5)) := by
  obtain ⟨i0, hi, hz0, hz1, hz2⟩ := info_parts Tryd.infoB
  have hrow := World.rowIs_alloc w #[] 5 (fun _ => .int .u8 0) (fun i hi => absurd hi (by simp))
  have hown := own_of_row (base := w.heap.size) (n := 0) hrow (Nat.le_refl _) (Nat.zero_le _) (by unfold maxLen; simp)
  rcases Nat.eq_zero_or_pos l.length with h0 | h0
  · obtain rfl : l = [] := List.eq_nil_of_length_eq_zero h0
    obtain rfl : n = 0 := by simpa using hn.symm
    refine wpList_append_fits_any _ hgd s x 22 ho w.heap.size 5 i0 1 Tryd.underlying22 hi hz1 w.heap.size 0 0 [] hs hown A 0 c [] hx rfl (fun e => ⟨rfl, hA e⟩) (fun ad _ j u hj => by simp at hj) (fun u hu => by simp at hu) (Nat.le_refl _) ?_
    intro w' hown' hgrow
    exact h _ w' hown' (by simp) ((hb.alloc hB _).grown hgrow (by simp; omega) (fun k hk => by cases hk; exact hB))
  · obtain ⟨b, off, rfl, hbl, hc⟩ := hr h0
    refine wpList_append_own _ hgd s x 22 ho w.heap.size 5 i0 (.int .u8 0) 1 1 Tryd.underlying22 hi hz0 hz1 hz2 rfl (by decide) _ 0 [] hs hown ⟨b, off, none⟩ n c (cellsB l) hx (by rw [cellsB_length, hn, Nat.mul_one]) (fun j u hj => ?_) (cellsB_one _) (by unfold maxLen; omega) (by omega) (by simp) ?_
    · have hjl : j < l.length := by have := (List.getElem?_eq_some_iff.1 hj).1; rwa [cellsB_length] at this
      rw [Addr.add_mid]
      refine ((((Below.refl w.heap.size w).alloc (Nat.le_refl _) _).cell (p := ⟨b, off + j, none⟩) hbl).trans ?_)
      rw [hc j hjl, ← cellsB_at l j hjl]
      exact hj
    · intro v' w' hown' hgrow _
      have hfin : OwnB w' w.heap.size v' l := by
        unfold OwnB
        rw [hn]
        rw [Nat.zero_add, List.nil_append] at hown'
        exact hown'
      refine h v' w' hfin (fun e => ?_) ((hb.alloc hB _).grown hgrow (by simp; omega) (fun k hk => by cases hk; exact hB))
      obtain ⟨A', c', e', _, _⟩ := hfin.read
      rw [e] at e'
      have := (Value.slice.inj e').2.1
      omega
/-- A slice that came in behind a list of the call's own. -/
theorem appA {ops : Array Oper} {rest : List Oper} {o : Oper} {a : Act} {Q : Exit → Act → World → Prop} (hgd : o.guard = none) (s x : Operand)
    (ho : o.op = .call { callee := .builtin .append, args := #[s, x], argTypes := #[22, 22] }) (w w0 : World) (B base : Nat) (v : Value) (l ys : List UInt8) (n m c : Nat) (A : Option Addr) (hn : l.length = n) (hm : ys.length = m) (hA : A = none → c = 0) (hv0 : v ≠ .slice none 0 0)
    (hs : a.eval s = v) (hown : OwnB w base v l) (hx : a.eval x = .slice A m c) (hr : RB w A ys) (hlen : n + m ≤ 10000000) (hbase : base ≤ w.heap.size) (hB : B ≤ base) (hb : Below B w0 w)
    (h : ∀ A c w', OwnB w' base (.slice A (n + m) c) (l ++ ys) → RB w' A (l ++ ys) → n + m ≤ c → Below B w0 w' → wpList Tryd.prog ops Q rest (a.put o.dst (.slice A (n + m) c)) w') :
    wpList Tryd.prog ops Q (o :: rest) a w := by
  obtain ⟨i0, hi, hz0, hz1, hz2⟩ := info_parts Tryd.infoB
  have fin : ∀ v' w', OwnB w' base v' (l ++ ys) → Below B w0 w' → wpList Tryd.prog ops Q rest (a.put o.dst v') w' := fun v' w' hfin hb' => by
    obtain ⟨A, c, hv, hc, hr⟩ := hfin.read
    have hl : (l ++ ys).length = n + m := by rw [List.length_append, hn, hm]
    rw [hl] at hv hc
    subst hv
    exact h A c w' hfin hr hc hb'
  unfold OwnB at hown
  rw [hn] at hown
  have hok : ∀ k, v.ownBlock = some k → B ≤ k := fun k hk => by
    have := (World.ownsRow.lt hown k hk).1
    omega
  rcases Nat.eq_zero_or_pos ys.length with h0 | h0
  · obtain rfl : ys = [] := List.eq_nil_of_length_eq_zero h0
    obtain rfl : m = 0 := by simpa using hm.symm
    rcases hown.2 with ⟨e, _⟩ | ⟨g, cap, cur, e, _⟩
    · exact absurd e hv0
    · subst e
      have hcap : n ≤ cap := by
        have hfin : OwnB w base (.slice (some ⟨g, 0, none⟩) n cap) l := by unfold OwnB; rw [hn]; exact hown
        obtain ⟨A', c', e', hc', _⟩ := hfin.read
        rw [hn] at e' hc'
        cases e'
        exact hc'
      refine wpList_append_fits_any _ hgd s x 22 ho base 5 i0 1 Tryd.underlying22 hi hz1 g n cap (cellsB l) hs hown A 0 c [] hx rfl (fun e => ⟨rfl, hA e⟩) (fun ad _ j u hj => by simp at hj) (fun u hu => by simp at hu) (by omega) ?_
      intro w' hown' hgrow
      refine fin _ w' ?_ (hb.grown hgrow (by omega) hok)
      unfold OwnB
      rw [List.append_nil, hn]
      rw [List.append_nil] at hown'
      exact hown'
  · obtain ⟨b, off, rfl, hbl, hc⟩ := hr h0
    refine wpList_append_own _ hgd s x 22 ho base 5 i0 (.int .u8 0) 1 1 Tryd.underlying22 hi hz0 hz1 hz2 rfl (by decide) v n _ hs hown ⟨b, off, none⟩ m c (cellsB ys) hx (by rw [cellsB_length, hm, Nat.mul_one]) (fun j u hj => ?_) (cellsB_one _) (by unfold maxLen; omega) (by omega) (by omega) ?_
    · have hjl : j < ys.length := by have := (List.getElem?_eq_some_iff.1 hj).1; rwa [cellsB_length] at this
      rw [Addr.add_mid, hc j hjl, ← cellsB_at ys j hjl]
      exact hj
    · intro v' w' hown' hgrow _
      refine fin v' w' ?_ (hb.grown hgrow (by omega) hok)
      unfold OwnB
      rw [List.length_append, cellsB_append, hn, hm]
      exact hown'
def zeroH : Array Value := #[.int .u8 0, .int .u8 0, .int .u8 0, .int .u8 0, .int .u8 0, .int .u8 0, .int .u8 0, .int .u8 0, .int .u8 0, .int .u8 0, .int .u8 0, .int .u8 0, .int .u8 0, .int .u8 0, .int .u8 0, .int .u8 0, .int .u8 0, .int .u8 0, .int .u8 0, .int .u8 0, .int .u8 0, .int .u8 0, .int .u8 0, .int .u8 0, .int .u8 0, .int .u8 0, .int .u8 0, .int .u8 0, .int .u8 0, .int .u8 0, .int .u8 0, .int .u8 0]
theorem row_zeroH (V : World) : (V.alloc (.cells zeroH 26)).rowIs V.heap.size 26 32 (bf []) := World.rowIs_alloc V zeroH 26 (bf []) (fun i hi => by
  have h32 : i < 32 := hi
  rw [show zeroH = Array.replicate 32 (Value.int .u8 0) from rfl, Array.getElem?_replicate, if_pos h32]
  rfl)
theorem rs_of_rb {w w' : World} {A : Option Addr} {l : List UInt8} {B : Nat} (h : RB w A l) (hB : w.heap.size ≤ B) (hb : Below B w w') : RS (fun _ => False) w' A l := fun hz => by
  obtain ⟨b, off, e, hl, hc⟩ := h.below hB hb hz
  exact ⟨b, off, e, hl, fun h => h, hc⟩
/-- One part alone. -/
theorem ps_oneH {w : World} {A : Option Addr} {l : List UInt8} {c n : Nat} (hn : l.length = n) (hc : n ≤ c) (h : RB w A l) :
    PS (fun _ => False) (w.alloc (.cells #[.slice A n c] 22)) (some ⟨w.heap.size, 0, none⟩) [l] := fun _ => by
  have hb : Below w.heap.size w (w.alloc (.cells #[.slice A n c] 22)) := (Below.refl _ _).alloc (Nat.le_refl _) _
  have hr := World.rowIs_alloc w #[.slice A n c] 22 (fun _ => .slice A n c) (fun i hi => by
    obtain rfl : i = 0 := by simp at hi; omega
    rfl)
  refine ⟨w.heap.size, 0, rfl, by simp, fun h => h, fun j hj => ?_⟩
  obtain rfl : j = 0 := by simp at hj; omega
  exact ⟨A, c, by rw [Nat.add_zero, hr.cell (i := 0) (show 0 < 1 by decide)]; rw [show ([l] : List (List UInt8)).getD 0 [] = l from rfl, hn], by rw [show ([l] : List (List UInt8)).getD 0 [] = l from rfl, hn]; exact hc, rs_of_rb h (Nat.le_refl _) hb⟩
/-- Two parts. -/
theorem ps_two {w : World} {A B : Option Addr} {l r : List UInt8} {c n d m : Nat} (hn : l.length = n) (hc : n ≤ c) (h : RB w A l) (hm : r.length = m) (hd : m ≤ d) (h2 : RB w B r) :
    PS (fun _ => False) (w.alloc (.cells #[.slice A n c, .slice B m d] 22)) (some ⟨w.heap.size, 0, none⟩) [l, r] := fun _ => by
  have hb : Below w.heap.size w (w.alloc (.cells #[.slice A n c, .slice B m d] 22)) := (Below.refl _ _).alloc (Nat.le_refl _) _
  have hr := World.rowIs_alloc w #[.slice A n c, .slice B m d] 22 (fun j => if j = 0 then .slice A n c else .slice B m d) (fun i hi => by
    rcases (by simp at hi; omega : i = 0 ∨ i = 1) with rfl | rfl <;> rfl)
  refine ⟨w.heap.size, 0, rfl, by simp, fun h => h, fun j hj => ?_⟩
  have hj2 : j < 2 := hj
  rcases (by omega : j = 0 ∨ j = 1) with rfl | rfl
  · exact ⟨A, c, by rw [Nat.add_zero, hr.cell (i := 0) (show 0 < 2 by decide)]; rw [show ([l, r] : List (List UInt8)).getD 0 [] = l from rfl, hn]; rfl, by rw [show ([l, r] : List (List UInt8)).getD 0 [] = l from rfl, hn]; exact hc, rs_of_rb h (Nat.le_refl _) hb⟩
  · exact ⟨B, d, by rw [Nat.zero_add, hr.cell (i := 1) (show 1 < 2 by decide)]; rw [show ([l, r] : List (List UInt8)).getD 1 [] = r from rfl, hm]; rfl, by rw [show ([l, r] : List (List UInt8)).getD 1 [] = r from rfl, hm]; exact hd, rs_of_rb h2 (Nat.le_refl _) hb⟩
end Go.Proofs.YtkgmkblcofedbaaDoor
