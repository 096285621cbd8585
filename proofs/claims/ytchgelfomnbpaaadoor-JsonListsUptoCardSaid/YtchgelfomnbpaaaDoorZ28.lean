/-
  The program's clone of a value of JSON. No conditions but modest sizes.
-/
import Derived.Test.YtchgelfomnbpaaaDoorZ24
import Derived.Test.YtchgelfomnbpaaaDoorZ25
import Derived.Test.YtchgelfomnbpaaaDoorZ27
namespace Go.Proofs.YtchgelfomnbpaaaDoor
open Go.RowKit
open Go.Lib

/-- A copy under way at block V. -/
structure MC (V : Nat) (k : Int) (tx : Bt) (nv lv : Value) (cs : List Value) (T : Nat → Prop) (ns : List Bt) (vs : List JV) (w : World) : Prop where
  blk : J4 V (.int .i64 k) (.string (bs tx)) nv lv w
  names : OwT w (V + 1) nv ns
  vals : OwV w (V + 1) lv vs.length cs
  read : JRs w T vs cs
  old : ∀ b, T b → V < b ∧ b < w.heap.size ∧ nv.ownBlock ≠ some b ∧ lv.ownBlock ≠ some b
  apart : ∀ b, nv.ownBlock = some b → lv.ownBlock ≠ some b
section
variable {V : Nat} {k : Int} {tx : Bt} {nv lv : Value} {cs : List Value} {T : Nat → Prop} {ns : List Bt} {vs : List JV} {w w' : World}
theorem MC.nb (M : MC V k tx nv lv cs T ns vs w) {b : Nat} (h : nv.ownBlock = some b) : V < b ∧ b < w.heap.size := by
  have := World.ownsRow.lt M.names b h
  exact ⟨by omega, this.2⟩
theorem MC.lb (M : MC V k tx nv lv cs T ns vs w) {b : Nat} (h : lv.ownBlock = some b) : V < b ∧ b < w.heap.size := by
  have := World.ownsRow.lt M.vals b h
  exact ⟨by omega, this.2⟩
theorem MC.new {w : World} (k : Int) (H : J4 V (.int .i64 k) (.string (bs tx)) (.slice none 0 0) (.slice none 0 0) w) : MC V k tx (.slice none 0 0) (.slice none 0 0) [] (fun _ => False) [] [] w :=
  ⟨H, World.ownsRow_nil _ _ _ _, World.ownsRow_nil _ _ _ _, rfl, fun _ h => h.elim, fun _ h => by cases h⟩
theorem MC.off {F : Nat → Prop} (M : MC V k tx nv lv cs T ns vs w) (ho : Off F w w') (hF : ∀ b, F b → b < V ∨ w.heap.size ≤ b) : MC V k tx nv lv cs T ns vs w' :=
  ⟨M.blk.off ho (fun h => by have := hF _ h; have := M.blk.lt; omega), own_off M.names ho (fun b hb h => by have := hF _ h; have := M.nb hb; omega), own_off M.vals ho (fun b hb h => by have := hF _ h; have := M.lb hb; omega),
    JRs.off ho (fun b hb h => by have := hF _ h; have := M.old b hb; omega) vs cs M.read, fun b hb => by have := M.old b hb; have := ho.size; exact ⟨by omega, by omega, (M.old b hb).2.2.1, (M.old b hb).2.2.2⟩, M.apart⟩
theorem MC.below (M : MC V k tx nv lv cs T ns vs w) (hb : Below w.heap.size w w') : MC V k tx nv lv cs T ns vs w' := M.off (Off.of_below hb) (fun _ h => h.elim)
/-- A name behind the names. -/
theorem MC.name {x : Bt} {nv' : Value} (M : MC V k tx nv lv cs T ns vs w) (hn : OwT w' (V + 1) nv' (ns ++ [x])) (ho : Off (fun b => nv.ownBlock = some b) w w') (hat : ∀ b, nv'.ownBlock = some b → nv.ownBlock = some b ∨ w.heap.size ≤ b) :
    MC V k tx nv' lv cs T (ns ++ [x]) vs (w'.setCell ⟨V, 2, none⟩ nv') := by
  have o2 := off_set7 w' V 2 nv'
  have oT : Off (fun b => nv.ownBlock = some b ∨ b = V) w (w'.setCell ⟨V, 2, none⟩ nv') := (ho.mono (fun _ h => .inl h)).trans o2 (fun _ h => .inl (.inr h))
  have hVn : ¬ nv.ownBlock = some V := fun h => by have := M.nb h; omega
  have hb : J4 V (.int .i64 k) (.string (bs tx)) nv lv w' := M.blk.off ho hVn
  refine ⟨hb.set 2 nv', own_off hn o2 (fun b hb h => ?_), own_off M.vals oT (fun b hb h => ?_), JRs.off oT (fun b hb h => ?_) vs cs M.read, fun b hb => ?_, fun b hb h => ?_⟩
  · have := World.ownsRow.lt hn b hb
    omega
  · rcases h with h | h
    · exact M.apart b h hb
    · have := M.lb hb; omega
  · rcases h with h | h
    · exact (M.old b hb).2.2.1 h
    · have := M.old b hb; omega
  · have h1 := M.old b hb
    have h2 := oT.size
    refine ⟨h1.1, by omega, fun h => ?_, h1.2.2.2⟩
    rcases hat b h with h3 | h3
    · exact h1.2.2.1 h3
    · omega
  · rcases hat b hb with h3 | h3
    · exact M.apart b h3 h
    · have := M.lb h; omega
/-- A value behind the values. -/
theorem MC.push {v : JV} {x0 x1 x2 x3 lv' : Value} {T2 : Nat → Prop} (M : MC V k tx nv lv cs T ns vs w) (hv : JR w T2 v (.agg #[x0, x1, x2, x3])) (hT2 : ∀ b, T2 b → V < b ∧ b < w.heap.size ∧ nv.ownBlock ≠ some b ∧ lv.ownBlock ≠ some b)
    (hb : J4 V (.int .i64 k) (.string (bs tx)) nv lv' w') (hl : OwV w' (V + 1) lv' (vs.length + 1) (cs ++ [x0, x1, x2, x3])) (ho : Off (fun b => b = V ∨ lv.ownBlock = some b) w w') (hat : ∀ b, lv'.ownBlock = some b → lv.ownBlock = some b ∨ w.heap.size ≤ b) :
    MC V k tx nv lv' (cs ++ [x0, x1, x2, x3]) (fun b => T b ∨ T2 b) ns (vs ++ [v]) w' := by
  have hT : ∀ b, T b ∨ T2 b → V < b ∧ b < w.heap.size ∧ nv.ownBlock ≠ some b ∧ lv.ownBlock ≠ some b := fun b hb => hb.elim (M.old b) (hT2 b)
  have hF : ∀ b, T b ∨ T2 b → ¬ (b = V ∨ lv.ownBlock = some b) := fun b hb h => by
    have := hT b hb
    rcases h with h | h
    · omega
    · exact this.2.2.2 h
  refine ⟨hb, own_off M.names ho (fun b hb h => ?_), by rw [List.length_append]; exact hl, JRs.off ho hF _ _ (JRs.snoc (JR.mono (fun b h => .inr h) v _ hv) vs cs (JRs.mono (fun b h => .inl h) vs cs M.read)), fun b hb => ?_, fun b hb h => ?_⟩
  · rcases h with h | h
    · have := M.nb hb; omega
    · exact M.apart b hb h
  · have h1 := hT b hb
    have h2 := ho.size
    refine ⟨h1.1, by omega, h1.2.2.1, fun h => ?_⟩
    rcases hat b h with h3 | h3
    · exact h1.2.2.2 h3
    · omega
  · rcases hat b h with h3 | h3
    · exact M.apart b hb h3
    · have := M.nb hb; omega
/-- The value that is made. -/
theorem MC.value (M : MC V k tx nv lv cs T ns vs w) {T' : Nat → Prop} (hT' : ∀ b, V < b → b < w.heap.size → T' b) : JR w T' (.mk k tx ns vs) (.agg #[.int .i64 k, .string (bs tx), nv, lv]) :=
  jr_own M.names M.vals M.read (fun b hb => hT' b (M.old b hb).1 (M.old b hb).2.1) (fun b hb => hT' b (M.nb hb).1 (M.nb hb).2) (fun b hb => hT' b (M.lb hb).1 (M.lb hb).2)
theorem MC.one (M : MC V k tx nv lv cs T ns vs w) : One4 (.int .i64 k) (.string (bs tx)) nv lv := by
  refine ⟨rfl, rfl, ?_, ?_⟩
  · rcases M.names.2 with ⟨e, _⟩ | ⟨g, cap, cur, e, _⟩ <;> (rw [e]; rfl)
  · rcases M.vals.2 with ⟨e, _⟩ | ⟨g, cap, cur, e, _⟩ <;> (rw [e]; rfl)
end
/-- The step: a text behind the texts of a row of the call's own. -/
theorem step_appT7 {ops : Array Oper} {o : Oper} {a : Act} {K : Act → World → Prop} {Q : Exit → Act → World → Prop} {E : Prop} (hgd : o.guard = none) (s x : Operand)
    (ho : o.op = .call { callee := .builtin .append, args := #[s, x], argTypes := #[25, 25] }) (w : World) (B : Nat) (v : Value) (ns : List Bt) (l : Bt)
    (hs : a.eval s = v) (hown : OwT w B v ns) (hx : a.eval x = .slice (some ⟨w.heap.size, 0, none⟩) 1 1) (hlen : ns.length ≤ 1000000000) (hB : B ≤ w.heap.size)
    (h : ∀ g cap w', OwT w' B (.slice (some ⟨g, 0, none⟩) (ns.length + 1) cap) (ns ++ [l]) → Off (fun b => v.ownBlock = some b) w w' → (∀ b, (Value.slice (some ⟨g, 0, none⟩) (ns.length + 1) cap).ownBlock = some b → v.ownBlock = some b ∨ w.heap.size ≤ b) → K (a.put o.dst (.slice (some ⟨g, 0, none⟩) (ns.length + 1) cap)) w') :
    if Region.wanted o (yielded ops a.tmps) = true then Oper.wp Tryd.prog o a (w.alloc (.cells #[.string (bs l)] 9)) K Q else E := by
  obtain ⟨i0, hi, hz0, hz1, hz2⟩ := info_parts Tryd.info7S
  refine step_append_lies (w.alloc (.cells #[.string (bs l)] 9)) hgd s x 25 ho B 9 i0 (.string ⟨#[]⟩) 1 16 Tryd.underlying25 hi hz0 hz1 hz2 rfl (by decide) v ns.length (txC ns) hs (World.ownsRow.alloc hown _) ⟨w.heap.size, 0, none⟩ 1 1 [.string (bs l)] hx rfl
    (fun j u hj => by rw [Addr.add_mid, Nat.zero_add, (Blk.new _ _).cell]; simpa using hj) (fun u hu => by simp at hu; subst hu; rfl) (by decide) (by unfold maxLen; omega) (by omega) (by simp; omega) (w.heap.size + 1) (by simp) ?_
  intro g cap w' h1 h2 h3 _
  refine h g cap w' ?_ (((Off.of_below ((Below.refl _ _).alloc (Nat.le_refl _) _)).mono (fun _ h => h.elim)).trans (Off.of_grown h2) (fun _ h => .inl h)) (fun b hb => ?_)
  · unfold OwT
    rw [List.length_append, show txC (ns ++ [l]) = txC ns ++ [.string (bs l)] by simp [txC]]
    exact h1
  · have : g = b := Option.some.inj hb
    subst this
    exact h3.imp id (fun h => by omega)
theorem step_appV7 {ops : Array Oper} {o : Oper} {a : Act} {K : Act → World → Prop} {Q : Exit → Act → World → Prop} {E : Prop} (hgd : o.guard = none) (s x : Operand)
    (ho : o.op = .call { callee := .builtin .append, args := #[s, x], argTypes := #[26, 26] }) (w : World) (B : Nat) (v : Value) (n : Nat) (cs : List Value) (x0 x1 x2 x3 : Value) (h1 : One4 x0 x1 x2 x3)
    (hs : a.eval s = v) (hown : OwV w B v n cs) (hx : a.eval x = .slice (some ⟨w.heap.size, 0, none⟩) 1 1) (hlen : n ≤ 1000000000) (hB : B ≤ w.heap.size)
    (h : ∀ g cap w', OwV w' B (.slice (some ⟨g, 0, none⟩) (n + 1) cap) (n + 1) (cs ++ [x0, x1, x2, x3]) → Off (fun b => v.ownBlock = some b) w w' → (∀ b, (Value.slice (some ⟨g, 0, none⟩) (n + 1) cap).ownBlock = some b → v.ownBlock = some b ∨ w.heap.size ≤ b) → K (a.put o.dst (.slice (some ⟨g, 0, none⟩) (n + 1) cap)) w') :
    if Region.wanted o (yielded ops a.tmps) = true then Oper.wp Tryd.prog o a (w.alloc (.cells #[x0, x1, x2, x3] 28)) K Q else E := by
  obtain ⟨i0, hi, hz0, hz1, hz2⟩ := info_parts Tryd.info7J
  obtain ⟨q0, q1, q2, q3⟩ := h1
  refine step_append_lies (w.alloc (.cells #[x0, x1, x2, x3] 28)) hgd s x 26 ho B 28 i0 _ 4 72 Tryd.underlying26 hi hz0 hz1 hz2 rfl (by decide) v n cs hs (World.ownsRow.alloc hown _) ⟨w.heap.size, 0, none⟩ 1 1 [x0, x1, x2, x3] hx rfl
    (fun j u hj => by rw [Addr.add_mid, Nat.zero_add, (Blk.new _ _).cell]; simpa using hj) (fun u hu => by simp at hu; rcases hu with rfl | rfl | rfl | rfl <;> assumption) (by decide) (by unfold maxLen; omega) (by omega) (by simp; omega) (w.heap.size + 1) (by simp) ?_
  intro g cap w' h1 h2 h3 _
  refine h g cap w' h1 (((Off.of_below ((Below.refl _ _).alloc (Nat.le_refl _) _)).mono (fun _ h => h.elim)).trans (Off.of_grown h2) (fun _ h => .inl h)) (fun b hb => ?_)
  have : g = b := Option.some.inj hb
  subst this
  exact h3.imp id (fun h => by omega)
end Go.Proofs.YtchgelfomnbpaaaDoor
