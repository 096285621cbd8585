/-
  The program's builder where elements are written; writeAttribute. Conditions: texts of modest length; the library's variable MaxLen holds an int.
-/
import Derived.Test.YtklcjimmbkpbdaaGreatDoorZ21
import Derived.Test.YtklcjimmbkpbdaaGreatDoorZ13
namespace Go.Proofs.YtklcjimmbkpbdaaGreatDoor
open Go.RowKit
open Go.Lib

abbrev TY8 : TypeId := 5
abbrev TSb : TypeId := 69
abbrev BI (B b : Nat) (acc : Bt) (w : World) : Prop := Lib.IsBuilderF TSb TY8 B b (byteCells acc) w
theorem cells_of8 (s : Bt) : Lib.strCells (bs s) = byteCells s := by
  unfold Lib.strCells Lib.byteCells
  simp [bs]
theorem kept_below {e : TypeId} {b : Option Nat} {w w' : World} (h : Below w.heap.size w w') : Lib.OthersKept e b w w' := fun k o hk _ _ => by
  have hlt : k < w.heap.size := (Array.getElem?_eq_some_iff.1 hk).1
  rw [h.block k hlt]
  exact hk
/-- A builder at b (made since w0) that holds acc; what has turned since W. -/
structure BSt (w0 : World) (b : Nat) (acc : Bt) (W w : World) : Prop where
  bld : BI w0.heap.size b acc w
  since : Below w0.heap.size w0 w
  below : Below w0.heap.size W w
  oth : Lib.OthersKept TY8 (some b) W w
section
variable {w0 W w w' : World} {b : Nat} {acc acc' : Bt}
theorem BSt.le (S : BSt w0 b acc W w) : w0.heap.size ≤ w.heap.size := S.since.size
theorem BSt.lt (S : BSt w0 b acc W w) : b < w.heap.size := S.bld.elim (fun h => h.lt) (fun h => h.lt)
theorem BSt.step (S : BSt w0 b acc W w) (h1 : Lib.BuilderAtF TSb TY8 w0.heap.size b (.pointer (some ⟨b, 0, none⟩)) (byteCells acc') w') (h2 : Below w0.heap.size w w') (h3 : Lib.OthersKept TY8 (some b) w w') : BSt w0 b acc' W w' :=
  ⟨.inr h1, S.since.trans h2, S.below.trans h2, S.oth.trans h3⟩
theorem BSt.call (S : BSt w0 b acc W w) (h : Below w.heap.size w w') : BSt w0 b acc W w' :=
  ⟨bf_below S.bld h, S.since.trans (h.mono S.le), S.below.trans (h.mono S.le), S.oth.trans (kept_below h)⟩
theorem BSt.comp (S : BSt w0 b acc W w) (S' : BSt w0 b acc' w w') : BSt w0 b acc' W w' :=
  ⟨S'.bld, S'.since, S.below.trans S'.below, S.oth.trans S'.oth⟩
theorem BSt.here (S : BSt w0 b acc W w) : BSt w0 b acc w w :=
  ⟨S.bld, S.since, Below.refl _ _, kept_below (Below.refl _ _)⟩
/-- A block of another kind stays. -/
theorem BSt.blk (S : BSt w0 b acc W w) {X : Nat} {c : Array Value} {T : TypeId} (hb : Blk X (.cells c T (0, 0)) W) (hX : X ≠ b) (hT : T ≠ TY8) : Blk X (.cells c T (0, 0)) w :=
  S.oth X _ hb (fun e => hX (Option.some.inj e)) (fun c' fz e => by injection e with e1 e2 e3; exact absurd e2 hT)
theorem BSt.cell (S : BSt w0 b acc W w) {p : Addr} {v : Value} (hp : p.block < w0.heap.size) (hc : w0.cell? p = some v) : w.cell? p = some v := (S.since.cell hp).trans hc
/-- What is written, and what has turned by it. -/
def BWr (w0 : World) (b : Nat) (acc : Bt) (W : World) (e : Ending) (w' : World) : Prop := e = .returned (.tuple #[]) ∧ BSt w0 b acc W w'
theorem wS8 (S : BSt w0 b acc W w) (s : Bt) (hl : acc.length + s.length ≤ 1000000000) :
    Calls Tryz.prog 66 #[.pointer (some ⟨b, 0, none⟩), .string (bs s)] w fun e w' => (∃ z, e = .returned (.tuple #[.int .i64 z, .nilIface])) ∧ BSt w0 b (acc ++ s) W w' := by
  have := sbWrite w0.heap.size b (byteCells acc) (bs s) w S.bld (by rw [Lib.byteCells_length, bs_size]; omega) S.le
  rw [cells_of8, ← byteCells_append] at this
  exact this.mono (fun e w' h => ⟨⟨_, h.1⟩, S.step h.2.1 h.2.2.1 h.2.2.2⟩)
theorem wB8 (S : BSt w0 b acc W w) (c : UInt8) (z : Int) (hz : (c.toNat : Int) = z) (hl : acc.length + 1 ≤ 1000000000) :
    Calls Tryz.prog 68 #[.pointer (some ⟨b, 0, none⟩), .int .u8 z] w fun e w' => e = .returned .nilIface ∧ BSt w0 b (acc ++ [c]) W w' := by
  subst hz
  have := sbByte w0.heap.size b (byteCells acc) (c.toNat : Int) w S.bld (by rw [Lib.byteCells_length]; omega) S.le
  rw [show byteCells acc ++ [Value.int .u8 (c.toNat : Int)] = byteCells (acc ++ [c]) from by rw [byteCells_append]; rfl] at this
  exact this.mono (fun e w' h => ⟨h.1, S.step h.2.1 h.2.2.1 h.2.2.2⟩)
theorem BSt.ml (S : BSt w0 b acc W w) (h : ML w0) : ML w := h.below S.since
end
theorem html8_any (t : Bt) (hs : t.length ≤ 1000000) (w : World) : Calls Tryz.prog 67 #[.string (bs t)] w fun e w' => e = .returned (.string (bs (htmlB t))) ∧ Below w.heap.size w w' := by
  have := html_any (bs t) w (by rw [bs_size]; exact hs)
  rw [bs_list] at this
  exact this
theorem htmlB_len (t : Bt) : (htmlB t).length ≤ 24 * t.length := by
  unfold htmlB
  have h1 := html_length ((pts t).filter inXml)
  have h2 := List.length_filter_le inXml (pts t)
  have h3 := pts_length_le t
  have h4 := enc_length_le (html ((pts t).filter inXml))
  omega
theorem attrV_len (l : Bt) : (attrV l).length ≤ 5 * l.length := by
  induction l with
  | nil => exact Nat.le_refl _
  | cons c l ih =>
    unfold attrV at ih ⊢
    rw [List.flatMap_cons, List.length_append, List.length_cons]
    have : (attrC c).length ≤ 5 := by unfold attrC; split; · decide
                                      · split <;> simp
    omega
theorem attrP_len (nm v : Bt) : (attrP nm v).length ≤ nm.length + 120 * v.length + 4 := by
  unfold attrP
  have h1 := attrV_len (htmlB v)
  have h2 := htmlB_len v
  simp only [List.length_cons, List.length_append, List.length_nil]
  omega
set_option maxRecDepth 100000 in
set_option maxHeartbeats 2000000 in
theorem writeAttr_any {w0 W w : World} {b : Nat} {acc : Bt} (S : BSt w0 b acc W w) (nm v : Bt) (hn : nm.length ≤ 1000000) (hv : v.length ≤ 1000000) (ha : acc.length ≤ 800000000) (hm : ML w0) :
    Calls Tryz.prog 69 #[.pointer (some ⟨b, 0, none⟩), .string (bs nm), .string (bs v)] w (BWr w0 b (acc ++ attrP nm v) W) := by
  have HH := Lib.hid (fun V => html8_any v hv V)
  have hl1 := htmlB_len v
  have hl2 := repl_len (old := [10]) (new := [38, 35, 49, 48, 59]) (by decide) _ (htmlB v) (Nat.le_refl _)
  simp only [List.length_cons, List.length_nil] at hl2
  have hl3 := attrV_len (htmlB v)
  have HR1 : Hid (∀ V, ML V → Calls Tryz.prog 95 #[.string (bs (htmlB v)), .string ⟨#[10]⟩, .string ⟨#[38, 35, 49, 48, 59]⟩] V (fun e w' => e = .returned (.string (bs (replL [10] [38, 35, 49, 48, 59] (htmlB v)))) ∧ Below V.heap.size V w')) := Lib.hid (fun V hV => repl_any [10] [38, 35, 49, 48, 59] (htmlB v) (by decide) (by decide) (by decide) (by omega) V hV)
  have HR2 : Hid (∀ V, ML V → Calls Tryz.prog 95 #[.string (bs (replL [10] [38, 35, 49, 48, 59] (htmlB v))), .string ⟨#[9]⟩, .string ⟨#[38, 35, 57, 59]⟩] V (fun e w' => e = .returned (.string (bs (attrV (htmlB v)))) ∧ Below V.heap.size V w')) := Lib.hid (fun V hV => by
    have := repl_any [9] [38, 35, 57, 59] (replL [10] [38, 35, 49, 48, 59] (htmlB v)) (by decide) (by decide) (by decide) (by omega) V hV
    rw [attr_repl] at this
    exact this)
  have HE : Hid (acc ++ attrP nm v = ((((acc ++ [32]) ++ nm) ++ [61, 34]) ++ attrV (htmlB v)) ++ [34]) := Lib.hid (by unfold attrP; simp)
  have HS := Lib.hid S
  have HM := Lib.hid hm
  have hL : (attrV (htmlB v)).length ≤ 120000000 := by omega
  rw [HE.out]
  generalize attrV (htmlB v) = x at *
  generalize replL [10] [38, 35, 49, 48, 59] (htmlB v) = y at *
  generalize htmlB v = z at *
  clear S hl1 hl2 hl3 hv hm
  go_enter Tryz.func69, Tryz.ntmps69
  go_wp2_with fail
  refine (HH.out _).mono ?_
  rintro e w1 ⟨rfl, b1⟩
  have HS1 := Lib.hid (HS.out.call b1)
  clear b1
  go_wp2_with fail
  refine (HR1.out _ (HS1.out.ml HM.out)).mono ?_
  rintro e w2 ⟨rfl, b2⟩
  have HS2 := Lib.hid (HS1.out.call b2)
  clear b2
  go_wp2_with fail
  refine (HR2.out _ (HS2.out.ml HM.out)).mono ?_
  rintro e w3 ⟨rfl, b3⟩
  have HS3 := Lib.hid (HS2.out.call b3)
  clear b3
  go_wp2_with fail
  refine (wB8 HS3.out 32 32 rfl (by omega)).mono ?_
  rintro e w4 ⟨rfl, s4⟩
  have HS4 := Lib.hid s4
  clear s4
  go_wp2_with fail
  refine (wS8 HS4.out nm (by simp only [List.length_append, List.length_cons, List.length_nil]; omega)).mono ?_
  rintro e w5 ⟨⟨z5, rfl⟩, s5⟩
  have HS5 := Lib.hid s5
  clear s5
  go_wp2_with fail
  refine (wS8 HS5.out [61, 34] (by simp only [List.length_append, List.length_cons, List.length_nil]; omega)).mono ?_
  rintro e w6 ⟨⟨z6, rfl⟩, s6⟩
  have HS6 := Lib.hid s6
  clear s6
  go_wp2_with fail
  refine (wS8 HS6.out x (by simp only [List.length_append, List.length_cons, List.length_nil]; omega)).mono ?_
  rintro e w7 ⟨⟨z7, rfl⟩, s7⟩
  have HS7 := Lib.hid s7
  clear s7
  go_wp2_with fail
  refine (wB8 HS7.out 34 34 rfl (by simp only [List.length_append, List.length_cons, List.length_nil]; omega)).mono ?_
  rintro e w8 ⟨rfl, s8⟩
  have HS8 := Lib.hid s8
  clear s8
  go_wp2
  first | go_end0 | refine bodyPost_ret (results_none rfl _ _ _) rfl ?_
  exact ⟨rfl, HS8.out⟩
end Go.Proofs.YtklcjimmbkpbdaaGreatDoor
