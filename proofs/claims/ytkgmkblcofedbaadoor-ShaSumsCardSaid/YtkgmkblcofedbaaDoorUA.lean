/-
  Slices that are cut out of a slice of bytes; four parts. No conditions.
-/
import Derived.Test.YtkgmkblcofedbaaDoorLL
import Derived.Test.YtkgmkblcofedbaaDoorRH
namespace Go.Proofs.YtkgmkblcofedbaaDoor
open Go.RowKit
open Go.Lib

def cutA (A : Option Addr) (c l : Nat) : Option Addr := if c = l then A else A.map (·.add (l * 1))
theorem cut_from (A : Option Addr) (n c i : Nat) (hi : i ≤ n) (U : World) : (Instr.slice 22 (.slice A n c) (some (.int .i64 (i : Int))) none none).run Tryd.prog U = .ok (.slice (cutA A c i) (n - i) (c - i)) U := by
  have he : Tryd.prog.elem 22 = 5 := by kernel_rfl
  rw [run_slice_l U 22 A n c (by rw [he]; exact Tryd.underlying22) .i64 (i : Int) (by omega) (by omega), he, size_u8]
  rfl
theorem cut_upto (A : Option Addr) (n c i : Nat) (hi : i ≤ c) (U : World) : (Instr.slice 22 (.slice A n c) none (some (.int .i64 (i : Int))) none).run Tryd.prog U = .ok (.slice (cutA A c 0) i c) U := by
  have he : Tryd.prog.elem 22 = 5 := by kernel_rfl
  rw [run_slice_h U 22 A n c (by rw [he]; exact Tryd.underlying22) .i64 (i : Int) (by omega) (by omega), he, size_u8]
  rfl
theorem cut_both (A : Option Addr) (n c i k : Nat) (hi : i ≤ k) (hk : k ≤ c) (U : World) : (Instr.slice 22 (.slice A n c) (some (.int .i64 (i : Int))) (some (.int .i64 (k : Int))) none).run Tryd.prog U = .ok (.slice (cutA A c i) (k - i) (c - i)) U := by
  have he : Tryd.prog.elem 22 = 5 := by kernel_rfl
  rw [run_slice_lh U 22 A n c (by rw [he]; exact Tryd.underlying22) .i64 .i64 (i : Int) (k : Int) (by omega) (by omega) (by omega), he, size_u8]
  rfl
theorem RB.cut {w : World} {A : Option Addr} {L : List UInt8} {c : Nat} (h : RB w A L) (i k : Nat) (hk : k ≤ L.length) (hc : L.length ≤ c) : RB w (cutA A c i) ((L.take k).drop i) := fun hz => by
  rw [List.length_drop, List.length_take] at hz
  obtain ⟨b, off, rfl, hbl, hcs⟩ := h (by omega)
  refine ⟨b, off + i, ?_, hbl, fun j hj => ?_⟩
  · unfold cutA
    rw [if_neg (by omega), Nat.mul_one]
    show some (Addr.add ⟨b, off, none⟩ i) = _
    rw [Addr.add_mid]
  · rw [List.length_drop, List.length_take] at hj
    rw [Nat.add_assoc, hcs (i + j) (by omega)]
    unfold bf
    simp only [List.getD, List.getElem?_drop]
    rw [List.getElem?_take_of_lt (by omega)]
/-- Four parts, the third of them nil. -/
theorem ps_four {w : World} {A B D : Option Addr} {p q r : List UInt8} {c n d m e k : Nat} (hn : p.length = n) (hc : n ≤ c) (h : RB w A p) (hm : q.length = m) (hd : m ≤ d) (h2 : RB w B q) (hk : r.length = k) (he : k ≤ e) (h3 : RB w D r) :
    PS (fun _ => False) (w.alloc (.cells #[.slice A n c, .slice B m d, .slice none 0 0, .slice D k e] 22)) (some ⟨w.heap.size, 0, none⟩) [p, q, [], r] := fun _ => by
  have hb : Below w.heap.size w (w.alloc (.cells #[.slice A n c, .slice B m d, .slice none 0 0, .slice D k e] 22)) := (Below.refl _ _).alloc (Nat.le_refl _) _
  have hr := World.rowIs_alloc w #[.slice A n c, .slice B m d, .slice none 0 0, .slice D k e] 22 (fun j => if j = 0 then .slice A n c else if j = 1 then .slice B m d else if j = 2 then .slice none 0 0 else .slice D k e) (fun i hi => by
    rcases (by simp at hi; omega : i = 0 ∨ i = 1 ∨ i = 2 ∨ i = 3) with rfl | rfl | rfl | rfl <;> rfl)
  subst hn; subst hm; subst hk
  refine ⟨w.heap.size, 0, rfl, by simp, fun h => h, fun j hj => ?_⟩
  have hj2 : j < 4 := hj
  rcases (by omega : j = 0 ∨ j = 1 ∨ j = 2 ∨ j = 3) with rfl | rfl | rfl | rfl
  · exact ⟨A, c, hr.cell (i := 0) (show 0 < 4 by decide), hc, RS.of_rb h (Nat.le_refl _) hb⟩
  · exact ⟨B, d, by rw [Nat.zero_add]; exact hr.cell (i := 1) (show 1 < 4 by decide), hd, RS.of_rb h2 (Nat.le_refl _) hb⟩
  · exact ⟨none, 0, by rw [Nat.zero_add]; exact hr.cell (i := 2) (show 2 < 4 by decide), Nat.le_refl _, fun hz => absurd hz (by simp)⟩
  · exact ⟨D, e, by rw [Nat.zero_add]; exact hr.cell (i := 3) (show 3 < 4 by decide), he, RS.of_rb h3 (Nat.le_refl _) hb⟩
theorem parts_four {V : World} {A : Option Addr} {l : List UInt8} {n c i k : Nat} (hn : l.length = n) (hc : n ≤ c) (hik : i ≤ k) (hkn : k ≤ n) (hV : RB V A l) :
    PS (fun _ => False) (V.alloc (.cells #[.slice (cutA A c 0) i c, .slice (cutA A c i) (k - i) (c - i), .slice none 0 0, .slice (cutA A c k) (n - k) (c - k)] 22)) (some ⟨V.heap.size, 0, none⟩) [l.take i, (l.take k).drop i, [], l.drop k] := by
  have h1 := hV.cut (c := c) 0 i (by omega) (by omega)
  have h2 := hV.cut (c := c) i k (by omega) (by omega)
  have h3 := hV.cut (c := c) k n (by omega) (by omega)
  rw [List.drop_zero] at h1
  rw [List.take_of_length_le (by omega)] at h3
  exact ps_four (by rw [List.length_take]; omega) (by omega) h1 (by rw [List.length_drop, List.length_take]; omega) (by omega) h2 (by rw [List.length_drop]; omega) (by omega) h3
theorem four_flat (L : List UInt8) (i k : Nat) (hik : i ≤ k) : [L.take i, (L.take k).drop i, [], L.drop k].flatten = L := by
  have e : L.take i = (L.take k).take i := by rw [List.take_take, Nat.min_eq_left hik]
  simp only [List.flatten_cons, List.flatten_nil, List.append_nil, List.nil_append]
  rw [← List.append_assoc, e, List.take_append_drop, List.take_append_drop]
theorem conv_rb {V : World} {A : Option Addr} {L : List UInt8} {c n : Nat} {T : ByteArray} (hn : L.length = n) (h0 : 0 < n) (hr : RB V A L) (hT : (⟨L.toArray⟩ : ByteArray) = T) : (convert 22 9 (.slice A n c)).run Tryd.prog V = .ok (.string T) V := by
  subst hn
  obtain ⟨b, off, rfl, _, hcs⟩ := hr h0
  have := run_convert_bytes_back V 22 9 5 ⟨b, off, none⟩ c L Tryd.underlying22 Tryd.underlying5 Tryd.underlying9 (fun j hj => by
    rw [Addr.add_mid, hcs j hj]
    simp [bf, List.getD, hj])
  rw [hT] at this
  exact this
/-- An array of 32 bytes written whole, as one step of a region that draws its order. -/
theorem store_row {P : Program} {ops : Array Oper} {op : Oper} {a : Act} {w : World} {K : Act → World → Prop} {Q : Exit → Act → World → Prop} {E : Prop} (hgd : op.guard = none) (hdst : op.dst = none) (ty : TypeId) (x y : Operand) (ho : op.op = .store ty x y)
    (b t N : Nat) (f g : Nat → Value) (cs : List Value) (hx : a.eval x = .pointer (some ⟨b, 0, none⟩)) (hy : a.eval y = .agg cs.toArray) (H : w.rowIs b t N f) (hn : cs.length = N)
    (hi : (P.info? ty).map (·.size) = some N) (h1 : ∀ v ∈ cs, v.oneCell' = true) (hg : ∀ j, j < N → cs[j]? = some (g j))
    (h : ∀ w', w'.rowIs b t N g → w.grownBy w' (some b) → K (a.put none undef) w') : if Region.wanted op (yielded ops a.tmps) = true then Oper.wp P op a w K Q else E := by
  have hw : Region.wanted op (yielded ops a.tmps) = true := by simp [Region.wanted, hgd]
  rw [if_pos hw]
  refine wp_store_mid ty x y ho b 0 cs.toArray hx hy (fun j hj => ?_) (by rw [hi]; simp [hn]) (all_oneCell_toArray h1) ?_
  · have hj' : j < N := by rw [← hn]; simpa using hj
    rw [Nat.zero_add]
    exact ⟨by rw [H.cell hj']; rfl, H.frozen j⟩
  · rw [hdst]
    refine h _ ((rowIs_setCells cs 0 w f H).congr (fun j hj => ?_)) (grown_sets b _ 0 w)
    rw [if_pos ⟨Nat.zero_le _, by rw [Nat.zero_add, hn]; exact hj⟩, Nat.sub_zero, hg j hj]
    rfl
end Go.Proofs.YtkgmkblcofedbaaDoor
