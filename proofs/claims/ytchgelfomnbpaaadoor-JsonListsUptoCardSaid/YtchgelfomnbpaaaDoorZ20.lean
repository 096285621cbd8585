/-
  Of the proofs of layer 7 (values of JSON): the parts PD PE. No conditions.
-/
import Derived.Test.YtchgelfomnbpaaaDoorZ08
import Derived.Test.YtchgelfomnbpaaaDoorZ19
import Derived.OwnWalk
import Derived.Deep.AppendLies
import Derived.Deep.MidRow
namespace Go.Proofs.YtchgelfomnbpaaaDoor
open Go.RowKit
open Go.Lib

theorem Tryd.info7S : (Tryd.prog.info? 9).map (fun i => (i.zero, i.size, i.bytes)) = some (some (.string ⟨#[]⟩), 1, 16) := by kernel_rfl
theorem Tryd.info7J : (Tryd.prog.info? 28).map (fun i => (i.zero, i.size, i.bytes)) = some (some (.agg #[.int .i64 0, .string ⟨#[]⟩, .slice none 0 0, .slice none 0 0]), 4, 72) := by kernel_rfl
/-- A value's block. -/
def J4 (b : Nat) (x0 x1 x2 x3 : Value) (w : World) : Prop := Blk b (.cells #[x0, x1, x2, x3] TJ (0, 0)) w
/-- An empty value's block. -/
def JZ (b : Nat) (w : World) : Prop := J4 b (.int .i64 0) (.string ⟨#[]⟩) (.slice none 0 0) (.slice none 0 0) w
def One4 (x0 x1 x2 x3 : Value) : Prop := x0.oneCell' = true ∧ x1.oneCell' = true ∧ x2.oneCell' = true ∧ x3.oneCell' = true
theorem One4.all {x0 x1 x2 x3 : Value} (h : One4 x0 x1 x2 x3) : (#[x0, x1, x2, x3] : Array Value).all (·.oneCell') = true := by
  obtain ⟨a, b, c, d⟩ := h
  rw [← Array.all_toList]
  show ([x0, x1, x2, x3] : List Value).all _ = true
  simp [List.all, a, b, c, d]
section
variable {b : Nat} {x0 x1 x2 x3 : Value} {w w' : World}
theorem J4.c0 (H : J4 b x0 x1 x2 x3 w) : w.cell? ⟨b, 0, none⟩ = some x0 := Blk.cell H 0
theorem J4.c1 (H : J4 b x0 x1 x2 x3 w) : w.cell? ⟨b, 1, none⟩ = some x1 := Blk.cell H 1
theorem J4.c2 (H : J4 b x0 x1 x2 x3 w) : w.cell? ⟨b, 2, none⟩ = some x2 := Blk.cell H 2
theorem J4.c3 (H : J4 b x0 x1 x2 x3 w) : w.cell? ⟨b, 3, none⟩ = some x3 := Blk.cell H 3
theorem J4.free (H : J4 b x0 x1 x2 x3 w) (j : Nat) : w.frozen? ⟨b, j, none⟩ = false := Blk.free H j
theorem J4.lt (H : J4 b x0 x1 x2 x3 w) : b < w.heap.size := Blk.lt H
theorem J4.off {F : Nat → Prop} (H : J4 b x0 x1 x2 x3 w) (ho : Off F w w') (hF : ¬ F b) : J4 b x0 x1 x2 x3 w' := ho.blk H hF
theorem J4.below (H : J4 b x0 x1 x2 x3 w) (hb : Below w.heap.size w w') : J4 b x0 x1 x2 x3 w' := H.off (Off.of_below hb) (fun h => h)
theorem J4.set (H : J4 b x0 x1 x2 x3 w) (j : Nat) (v : Value) : Blk b (.cells (#[x0, x1, x2, x3].setIfInBounds j v) TJ (0, 0)) (w.setCell ⟨b, j, none⟩ v) := Blk.set H j v
theorem J4.range (H : J4 b x0 x1 x2 x3 w) : w.rangeAt b 0 [x0, x1, x2, x3] := fun j v hv => by
  rw [Nat.zero_add, Blk.cell H j]
  simpa using hv
theorem J4.there (H : J4 b x0 x1 x2 x3 w) : w.there b 0 4 := fun j hj => by
  rw [Nat.zero_add]
  refine ⟨?_, H.free j⟩
  rw [Blk.cell H j, Array.getElem?_eq_getElem (by show j < 4; exact hj)]; rfl
end
theorem off_sets7 (b : Nat) : ∀ (vs : List Value) (o : Nat) (w : World), Off (fun k => k = b) w (w.setCells b o vs) := by
  intro vs
  induction vs with
  | nil => intro o w; exact Off.refl _ _
  | cons v vs ih =>
    intro o w
    exact (off_set7 w b o v).trans (ih (o + 1) (w.setCell ⟨b, o, none⟩ v)) (fun _ h => .inl h)
def setsA7 (cs : Array Value) : Nat → List Value → Array Value
  | _, [] => cs
  | o, v :: r => setsA7 (cs.setIfInBounds o v) (o + 1) r
theorem blk_sets7 {b : Nat} {t : TypeId} {fr : Nat × Nat} : ∀ (vs : List Value) (o : Nat) (cs : Array Value) (w : World), Blk b (.cells cs t fr) w → Blk b (.cells (setsA7 cs o vs) t fr) (w.setCells b o vs)
  | [], _, _, _, h => h
  | v :: r, o, _, _, h => blk_sets7 r (o + 1) _ _ (h.set o v)
theorem J4.stored {b : Nat} {x0 x1 x2 x3 : Value} {w : World} (H : J4 b x0 x1 x2 x3 w) (y0 y1 y2 y3 : Value) : J4 b y0 y1 y2 y3 (w.setCells b 0 [y0, y1, y2, y3]) := by
  have h0 := blk_sets7 [y0, y1, y2, y3] 0 _ _ H
  have e : setsA7 #[x0, x1, x2, x3] 0 [y0, y1, y2, y3] = #[y0, y1, y2, y3] := by simp [setsA7]
  rw [e] at h0
  exact h0
/-- The operation: a value is read. -/
theorem ld4 {ops : Array Oper} {rest : List Oper} {act : Act} {w : World} {Q : Exit → Act → World → Prop} {dst : Option Nat} {ty : TypeId} {pos : String} {af : Array Edge} {i b : Nat} {x0 x1 x2 x3 : Value}
    (hx : act.eval (.tmp i) = .pointer (some ⟨b, 0, none⟩)) (H : J4 b x0 x1 x2 x3 w) (k : wpList Tryd.prog ops Q rest (act.put dst (.agg #[x0, x1, x2, x3])) w) :
    wpList Tryd.prog ops Q ({ dst := dst, op := .load 28 (.tmp i), type := ty, pos := pos, after := af, guard := none } :: rest) act w :=
  wpList_load_mid rfl _ _ rfl b 0 hx [x0, x1, x2, x3] _ H.range Tryd.underlying28 rfl (by kernel_rfl) k
/-- The operation: a value is written. -/
theorem st4 {ops : Array Oper} {rest : List Oper} {act : Act} {w : World} {Q : Exit → Act → World → Prop} {ty : TypeId} {pos : String} {af : Array Edge} {i j b : Nat} {x0 x1 x2 x3 y0 y1 y2 y3 : Value}
    (hx : act.eval (.tmp i) = .pointer (some ⟨b, 0, none⟩)) (hy : act.eval (.tmp j) = .agg #[y0, y1, y2, y3]) (h1 : One4 y0 y1 y2 y3) (H : J4 b x0 x1 x2 x3 w)
    (k : ∀ w', J4 b y0 y1 y2 y3 w' → Off (fun k => k = b) w w' → wpList Tryd.prog ops Q rest act w') :
    wpList Tryd.prog ops Q ({ dst := none, op := .store 28 (.tmp i) (.tmp j), type := ty, pos := pos, after := af, guard := none } :: rest) act w :=
  wpList_store_mid rfl _ _ _ rfl b 0 #[y0, y1, y2, y3] hx hy (J4.there H) (by kernel_rfl) h1.all (k _ (J4.stored H y0 y1 y2 y3) (off_sets7 _ _ _ _))
/-- What a value's cells are. -/
theorem jr_one {w : World} {T : Nat → Prop} {v : JV} {x : Value} (h : JR w T v x) : ∃ x0 x1 x2 x3, x = .agg #[x0, x1, x2, x3] ∧ One4 x0 x1 x2 x3 := by
  obtain ⟨k, t, ns, l⟩ := v
  rw [JR] at h
  obtain ⟨nA, nc, lA, lc, e, _, _⟩ := h
  exact ⟨_, _, _, _, e, rfl, rfl, rfl, rfl⟩
/-! ### Rows -/
def txC (ns : List Bt) : List Value := ns.map fun b => .string (bs b)
/-- A row of texts of the call's own. -/
def OwT (w : World) (B : Nat) (v : Value) (ns : List Bt) : Prop := w.ownsRow B 9 1 v ns.length (txC ns)
/-- Cells, four by four, that read as these values. -/
def JRs (w : World) (T : Nat → Prop) : List JV → List Value → Prop
  | [], cs => cs = []
  | v :: l, cs => ∃ x0 x1 x2 x3 r, cs = x0 :: x1 :: x2 :: x3 :: r ∧ JR w T v (.agg #[x0, x1, x2, x3]) ∧ JRs w T l r
theorem JRs.off {F T : Nat → Prop} {w w' : World} (ho : Off F w w') (hF : ∀ b, T b → ¬ F b) : ∀ (l : List JV) (cs : List Value), JRs w T l cs → JRs w' T l cs
  | [], _, h => h
  | v :: l, cs, h => by
    obtain ⟨x0, x1, x2, x3, r, e, h1, h2⟩ := h
    exact ⟨x0, x1, x2, x3, r, e, JR.off ho hF v _ h1, JRs.off ho hF l r h2⟩
theorem RTx.mono {T T' : Nat → Prop} {w : World} {A : Option Addr} {l : List Bt} (h : RTx w T A l) (hT : ∀ b, T b → T' b) : RTx w T' A l := fun h0 => by
  obtain ⟨b, off, e, ht, hb, hc⟩ := h h0
  exact ⟨b, off, e, hT b ht, hb, hc⟩
mutual
theorem JR.mono {T T' : Nat → Prop} {w : World} (hT : ∀ b, T b → T' b) : ∀ (v : JV) (x : Value), JR w T v x → JR w T' v x
  | .mk k t ns l, x, h => by
    rw [JR] at h ⊢
    obtain ⟨nA, nc, lA, lc, e, h1, h2⟩ := h
    refine ⟨nA, nc, lA, lc, e, h1.mono hT, fun h0 => ?_⟩
    obtain ⟨b, off, e2, ht, hb, hl⟩ := h2 h0
    exact ⟨b, off, e2, hT b ht, hb, JRl.mono hT l b off hl⟩
theorem JRl.mono {T T' : Nat → Prop} {w : World} (hT : ∀ b, T b → T' b) : ∀ (l : List JV) (b off : Nat), JRl w T l b off → JRl w T' l b off
  | [], b, off, _ => by rw [JRl]; trivial
  | v :: l, b, off, h => by
    rw [JRl] at h ⊢
    obtain ⟨⟨x0, x1, x2, x3, c0, c1, c2, c3, hv⟩, hl⟩ := h
    exact ⟨⟨x0, x1, x2, x3, c0, c1, c2, c3, JR.mono hT v _ hv⟩, JRl.mono hT l b (off + 4) hl⟩
end
theorem JRs.mono {T T' : Nat → Prop} {w : World} (hT : ∀ b, T b → T' b) : ∀ (l : List JV) (cs : List Value), JRs w T l cs → JRs w T' l cs
  | [], _, h => h
  | v :: l, cs, h => by
    obtain ⟨x0, x1, x2, x3, r, e, h1, h2⟩ := h
    exact ⟨x0, x1, x2, x3, r, e, JR.mono hT v _ h1, JRs.mono hT l r h2⟩
theorem JRs.len {w : World} {T : Nat → Prop} : ∀ (l : List JV) (cs : List Value), JRs w T l cs → cs.length = l.length * 4
  | [], _, h => by rw [show _ = [] from h]; rfl
  | v :: l, cs, h => by
    obtain ⟨x0, x1, x2, x3, r, e, _, h2⟩ := h
    have := JRs.len l r h2
    rw [e]
    simp only [List.length_cons]
    omega
theorem JRs.snoc {w : World} {T : Nat → Prop} {v : JV} {x0 x1 x2 x3 : Value} (hv : JR w T v (.agg #[x0, x1, x2, x3])) : ∀ (l : List JV) (cs : List Value), JRs w T l cs → JRs w T (l ++ [v]) (cs ++ [x0, x1, x2, x3])
  | [], cs, h => by rw [show cs = [] from h]; exact ⟨x0, x1, x2, x3, [], rfl, hv, rfl⟩
  | a :: l, cs, h => by
    obtain ⟨y0, y1, y2, y3, r, e, h1, h2⟩ := h
    exact ⟨y0, y1, y2, y3, r ++ [x0, x1, x2, x3], by rw [e]; rfl, h1, JRs.snoc hv l r h2⟩
/-- A row of values of the call's own. -/
def OwV (w : World) (B : Nat) (v : Value) (n : Nat) (cs : List Value) : Prop := w.ownsRow B 28 4 v n cs
theorem jrl_of {w : World} {T : Nat → Prop} {b : Nat} : ∀ (l : List JV) (cs : List Value) (off : Nat), JRs w T l cs → (∀ j u, cs[j]? = some u → w.cell? ⟨b, off + j, none⟩ = some u) → JRl w T l b off
  | [], _, _, _, _ => by rw [JRl]; trivial
  | v :: l, cs, off, h, hc => by
    obtain ⟨x0, x1, x2, x3, r, rfl, h1, h2⟩ := h
    rw [JRl]
    refine ⟨⟨x0, x1, x2, x3, hc 0 x0 rfl, hc 1 x1 rfl, hc 2 x2 rfl, hc 3 x3 rfl, h1⟩, jrl_of l r (off + 4) h2 (fun j u hj => ?_)⟩
    have := hc (j + 4) u hj
    rw [show off + 4 + j = off + (j + 4) by omega]
    exact this
/-- A value whose rows are the call's own. -/
theorem jr_own {w : World} {B : Nat} {T T' : Nat → Prop} {k : Int} {t : Bt} {ns : List Bt} {l : List JV} {nv lv : Value} {cs : List Value} (hn : OwT w B nv ns) (hl : OwV w B lv l.length cs) (hs : JRs w T l cs) (hT : ∀ b, T b → T' b) (hnT : ∀ b, nv.ownBlock = some b → T' b) (hlT : ∀ b, lv.ownBlock = some b → T' b) :
    JR w T' (.mk k t ns l) (.agg #[.int .i64 k, .string (bs t), nv, lv]) := by
  rw [JR]
  have hnv : ∃ nA nc, nv = .slice nA ns.length nc := by
    rcases hn.2 with ⟨e, h0⟩ | ⟨g, cap, cur, e, _⟩
    · exact ⟨none, 0, by rw [e, h0]⟩
    · exact ⟨_, cap, e⟩
  have hlv : ∃ nA nc, lv = .slice nA l.length nc := by
    rcases hl.2 with ⟨e, h0⟩ | ⟨g, cap, cur, e, _⟩
    · exact ⟨none, 0, by rw [e, h0]⟩
    · exact ⟨_, cap, e⟩
  obtain ⟨nA, nc, rfl⟩ := hnv
  obtain ⟨lA, lc, rfl⟩ := hlv
  refine ⟨nA, nc, lA, lc, rfl, fun h0 => ?_, fun h0 => ?_⟩
  · obtain ⟨g, cap, e, hg1, hg2⟩ := World.ownsRow.form hn h0
    injection e with e1 e2 e3
    subst e1
    refine ⟨g, 0, rfl, hnT g rfl, hg2, fun j hj => ?_⟩
    have hcl := World.ownsRow.cells hn (g := g) rfl j (.string (bs ns[j])) (by unfold txC; rw [List.getElem?_map, List.getElem?_eq_getElem hj]; rfl)
    rw [Addr.add_mid, Nat.zero_add] at hcl
    rw [Nat.zero_add]
    exact hcl
  · obtain ⟨g, cap, e, hg1, hg2⟩ := World.ownsRow.form hl h0
    injection e with e1 e2 e3
    subst e1
    refine ⟨g, 0, rfl, hlT g rfl, hg2, jrl_of l cs 0 (JRs.mono hT l cs hs) (fun j u hj => ?_)⟩
    have hcl := World.ownsRow.cells hl (g := g) rfl j u hj
    rw [Addr.add_mid, Nat.zero_add] at hcl
    rw [Nat.zero_add]
    exact hcl
theorem jr_zero (w : World) (T : Nat → Prop) (k : Int) (t : Bt) : JR w T (.mk k t [] []) (.agg #[.int .i64 k, .string (bs t), .slice none 0 0, .slice none 0 0]) := by
  rw [JR]
  exact ⟨none, 0, none, 0, rfl, fun h => absurd h (Nat.lt_irrefl _), fun h => absurd h (Nat.lt_irrefl _)⟩
end Go.Proofs.YtchgelfomnbpaaaDoor
namespace Go.Proofs.YtchgelfomnbpaaaDoor
open Go.RowKit
open Go.Lib

/-- The value under way at block V. -/
structure MV (V : Nat) (k : Int) (nv lv : Value) (cs : List Value) (T : Nat → Prop) (ns : List Bt) (vs : List JV) (w : World) : Prop where
  blk : J4 V (.int .i64 k) (.string ⟨#[]⟩) nv lv w
  names : OwT w (V + 1) nv ns
  vals : OwV w (V + 1) lv vs.length cs
  read : JRs w T vs cs
  old : ∀ b, T b → V < b ∧ b < w.heap.size ∧ nv.ownBlock ≠ some b ∧ lv.ownBlock ≠ some b
  apart : ∀ b, nv.ownBlock = some b → lv.ownBlock ≠ some b
section
variable {V : Nat} {k : Int} {nv lv : Value} {cs : List Value} {T : Nat → Prop} {ns : List Bt} {vs : List JV} {w w' : World}
theorem MV.nb (M : MV V k nv lv cs T ns vs w) {b : Nat} (h : nv.ownBlock = some b) : V < b ∧ b < w.heap.size := by
  have := World.ownsRow.lt M.names b h
  exact ⟨by omega, this.2⟩
theorem MV.lb (M : MV V k nv lv cs T ns vs w) {b : Nat} (h : lv.ownBlock = some b) : V < b ∧ b < w.heap.size := by
  have := World.ownsRow.lt M.vals b h
  exact ⟨by omega, this.2⟩
theorem MV.new {w : World} (k : Int) (H : J4 V (.int .i64 k) (.string ⟨#[]⟩) (.slice none 0 0) (.slice none 0 0) w) : MV V k (.slice none 0 0) (.slice none 0 0) [] (fun _ => False) [] [] w :=
  ⟨H, World.ownsRow_nil _ _ _ _, World.ownsRow_nil _ _ _ _, rfl, fun _ h => h.elim, fun _ h => by cases h⟩
theorem MV.off {F : Nat → Prop} (M : MV V k nv lv cs T ns vs w) (ho : Off F w w') (hF : ∀ b, F b → b < V ∨ w.heap.size ≤ b) : MV V k nv lv cs T ns vs w' :=
  ⟨M.blk.off ho (fun h => by have := hF _ h; have := M.blk.lt; omega), own_off M.names ho (fun b hb h => by have := hF _ h; have := M.nb hb; omega), own_off M.vals ho (fun b hb h => by have := hF _ h; have := M.lb hb; omega),
    JRs.off ho (fun b hb h => by have := hF _ h; have := M.old b hb; omega) vs cs M.read, fun b hb => by have := M.old b hb; have := ho.size; exact ⟨by omega, by omega, (M.old b hb).2.2.1, (M.old b hb).2.2.2⟩, M.apart⟩
theorem MV.below (M : MV V k nv lv cs T ns vs w) (hb : Below w.heap.size w w') : MV V k nv lv cs T ns vs w' := M.off (Off.of_below hb) (fun _ h => h.elim)
/-- A name behind the names. -/
theorem MV.name {x : Bt} {nv' : Value} (M : MV V k nv lv cs T ns vs w) (hn : OwT w' (V + 1) nv' (ns ++ [x])) (ho : Off (fun b => nv.ownBlock = some b) w w') (hat : ∀ b, nv'.ownBlock = some b → nv.ownBlock = some b ∨ w.heap.size ≤ b) :
    MV V k nv' lv cs T (ns ++ [x]) vs (w'.setCell ⟨V, 2, none⟩ nv') := by
  have o2 := off_set7 w' V 2 nv'
  have oT : Off (fun b => nv.ownBlock = some b ∨ b = V) w (w'.setCell ⟨V, 2, none⟩ nv') := (ho.mono (fun _ h => .inl h)).trans o2 (fun _ h => .inl (.inr h))
  have hVn : ¬ nv.ownBlock = some V := fun h => by have := M.nb h; omega
  have hb : J4 V (.int .i64 k) (.string ⟨#[]⟩) nv lv w' := M.blk.off ho hVn
  refine ⟨hb.set 2 nv', own_off hn o2 (fun b hb h => ?_), own_off M.vals oT (fun b hb h => ?_), JRs.off oT (fun b hb h => ?_) vs cs M.read, fun b hb => ?_, fun b hb h => ?_⟩
  · have := World.ownsRow.lt hn b hb
    omega
  · rcases h with h | h
    · exact M.apart b h hb
    · have := M.lb hb; omega
  · rcases h with h | h
    · exact (M.old b hb).2.2.1 h
    · have := M.old b hb; omega
  · have h1 := M.old b hb
    have h2 := oT.size
    refine ⟨h1.1, by omega, fun h => ?_, h1.2.2.2⟩
    rcases hat b h with h3 | h3
    · exact h1.2.2.1 h3
    · omega
  · rcases hat b hb with h3 | h3
    · exact M.apart b h3 h
    · have := M.lb h; omega
/-- A value behind the values. -/
theorem MV.push {v : JV} {x0 x1 x2 x3 lv' : Value} {T2 : Nat → Prop} (M : MV V k nv lv cs T ns vs w) (hv : JR w T2 v (.agg #[x0, x1, x2, x3])) (hT2 : ∀ b, T2 b → V < b ∧ b < w.heap.size ∧ nv.ownBlock ≠ some b ∧ lv.ownBlock ≠ some b)
    (hb : J4 V (.int .i64 k) (.string ⟨#[]⟩) nv lv' w') (hl : OwV w' (V + 1) lv' (vs.length + 1) (cs ++ [x0, x1, x2, x3])) (ho : Off (fun b => b = V ∨ lv.ownBlock = some b) w w') (hat : ∀ b, lv'.ownBlock = some b → lv.ownBlock = some b ∨ w.heap.size ≤ b) :
    MV V k nv lv' (cs ++ [x0, x1, x2, x3]) (fun b => T b ∨ T2 b) ns (vs ++ [v]) w' := by
  have hT : ∀ b, T b ∨ T2 b → V < b ∧ b < w.heap.size ∧ nv.ownBlock ≠ some b ∧ lv.ownBlock ≠ some b := fun b hb => hb.elim (M.old b) (hT2 b)
  have hF : ∀ b, T b ∨ T2 b → ¬ (b = V ∨ lv.ownBlock = some b) := fun b hb h => by
    have := hT b hb
    rcases h with h | h
    · omega
    · exact this.2.2.2 h
  refine ⟨hb, own_off M.names ho (fun b hb h => ?_), by rw [List.length_append]; exact hl, JRs.off ho hF _ _ (JRs.snoc (JR.mono (fun b h => .inr h) v _ hv) vs cs (JRs.mono (fun b h => .inl h) vs cs M.read)), fun b hb => ?_, fun b hb h => ?_⟩
  · rcases h with h | h
    · have := M.nb hb; omega
    · exact M.apart b hb h
  · have h1 := hT b hb
    have h2 := ho.size
    refine ⟨h1.1, by omega, h1.2.2.1, fun h => ?_⟩
    rcases hat b h with h3 | h3
    · exact h1.2.2.2 h3
    · omega
  · rcases hat b h with h3 | h3
    · exact M.apart b hb h3
    · have := M.nb hb; omega
/-- The value that is made. -/
theorem MV.value (M : MV V k nv lv cs T ns vs w) {T' : Nat → Prop} (hT' : ∀ b, V < b → b < w.heap.size → T' b) : JR w T' (.mk k [] ns vs) (.agg #[.int .i64 k, .string ⟨#[]⟩, nv, lv]) :=
  jr_own M.names M.vals M.read (fun b hb => hT' b (M.old b hb).1 (M.old b hb).2.1) (fun b hb => hT' b (M.nb hb).1 (M.nb hb).2) (fun b hb => hT' b (M.lb hb).1 (M.lb hb).2)
theorem MV.one (M : MV V k nv lv cs T ns vs w) : One4 (.int .i64 k) (.string ⟨#[]⟩) nv lv := by
  refine ⟨rfl, rfl, ?_, ?_⟩
  · rcases M.names.2 with ⟨e, _⟩ | ⟨g, cap, cur, e, _⟩ <;> (rw [e]; rfl)
  · rcases M.vals.2 with ⟨e, _⟩ | ⟨g, cap, cur, e, _⟩ <;> (rw [e]; rfl)
end
/-! ### Appends -/
theorem appT7 {ops : Array Oper} {rest : List Oper} {o : Oper} {a : Act} {Q : Exit → Act → World → Prop} (hgd : o.guard = none) (s x : Operand)
    (ho : o.op = .call { callee := .builtin .append, args := #[s, x], argTypes := #[25, 25] }) (w : World) (B : Nat) (v : Value) (ns : List Bt) (l : Bt)
    (hs : a.eval s = v) (hown : OwT w B v ns) (hx : a.eval x = .slice (some ⟨w.heap.size, 0, none⟩) 1 1) (hlen : ns.length ≤ 1000000) (hB : B ≤ w.heap.size)
    (h : ∀ v' w', OwT w' B v' (ns ++ [l]) → Off (fun b => v.ownBlock = some b) w w' → (∀ b, v'.ownBlock = some b → v.ownBlock = some b ∨ w.heap.size ≤ b) → wpList Tryd.prog ops Q rest (a.put o.dst v') w') :
    wpList Tryd.prog ops Q (o :: rest) a (w.alloc (.cells #[.string (bs l)] 9)) := by
  obtain ⟨i0, hi, hz0, hz1, hz2⟩ := info_parts Tryd.info7S
  refine wpList_append_own_at _ hgd s x 25 ho B 9 i0 (.string ⟨#[]⟩) 1 16 Tryd.underlying25 hi hz0 hz1 hz2 rfl (by decide) v ns.length _ hs (World.ownsRow.alloc hown _) ⟨w.heap.size, 0, none⟩ 1 1 [.string (bs l)] hx rfl
    (fun j u hj => by rw [Addr.add_mid, Nat.zero_add, (Blk.new _ _).cell]; simpa using hj) (fun u hu => by simp at hu; subst hu; rfl) (by unfold maxLen; omega) (by omega) (by simp; omega) ?_
  intro v' w' h1 h2 _ h4
  refine h v' w' ?_ (((Off.of_below ((Below.refl _ _).alloc (Nat.le_refl _) _)).mono (fun _ h => h.elim)).trans (Off.of_grown h2) (fun _ h => .inl h)) (fun b hb => ?_)
  · unfold OwT
    rw [List.length_append, show txC (ns ++ [l]) = txC ns ++ [.string (bs l)] by simp [txC]]
    exact h1
  · rcases h4 with h4 | h4
    · exact .inl (by rw [← h4]; exact hb)
    · right
      rw [h4] at hb
      have := Option.some.inj hb
      simp at this
      omega
theorem appV7 {ops : Array Oper} {rest : List Oper} {o : Oper} {a : Act} {Q : Exit → Act → World → Prop} (hgd : o.guard = none) (s x : Operand)
    (ho : o.op = .call { callee := .builtin .append, args := #[s, x], argTypes := #[26, 26] }) (w : World) (B : Nat) (v : Value) (n : Nat) (cs : List Value) (x0 x1 x2 x3 : Value) (h1 : One4 x0 x1 x2 x3)
    (hs : a.eval s = v) (hown : OwV w B v n cs) (hx : a.eval x = .slice (some ⟨w.heap.size, 0, none⟩) 1 1) (hlen : n ≤ 1000000) (hB : B ≤ w.heap.size)
    (h : ∀ v' w', OwV w' B v' (n + 1) (cs ++ [x0, x1, x2, x3]) → Off (fun b => v.ownBlock = some b) w w' → (∀ b, v'.ownBlock = some b → v.ownBlock = some b ∨ w.heap.size ≤ b) → wpList Tryd.prog ops Q rest (a.put o.dst v') w') :
    wpList Tryd.prog ops Q (o :: rest) a (w.alloc (.cells #[x0, x1, x2, x3] 28)) := by
  obtain ⟨i0, hi, hz0, hz1, hz2⟩ := info_parts Tryd.info7J
  obtain ⟨q0, q1, q2, q3⟩ := h1
  refine wpList_append_own_at _ hgd s x 26 ho B 28 i0 _ 4 72 Tryd.underlying26 hi hz0 hz1 hz2 rfl (by decide) v n _ hs (World.ownsRow.alloc hown _) ⟨w.heap.size, 0, none⟩ 1 1 [x0, x1, x2, x3] hx rfl
    (fun j u hj => by rw [Addr.add_mid, Nat.zero_add, (Blk.new _ _).cell]; simpa using hj) (fun u hu => by simp at hu; rcases hu with rfl | rfl | rfl | rfl <;> assumption) (by unfold maxLen; omega) (by omega) (by simp; omega) ?_
  intro v' w' h1 h2 _ h4
  refine h v' w' h1 (((Off.of_below ((Below.refl _ _).alloc (Nat.le_refl _) _)).mono (fun _ h => h.elim)).trans (Off.of_grown h2) (fun _ h => .inl h)) (fun b hb => ?_)
  · rcases h4 with h4 | h4
    · exact .inl (by rw [← h4]; exact hb)
    · right
      rw [h4] at hb
      have := Option.some.inj hb
      simp at this
      omega
end Go.Proofs.YtchgelfomnbpaaaDoor
