/-
  Maps as lists of entries, each element as it stands; the operations on them. No conditions.
-/
import Derived.Maps.RangeWalk
import Derived.Sort.KeysCollected
namespace Go.Proofs.YtklcjimmbkpbdaaGreatDoor
open Go.RowKit
open Go.Maps
open Go.WideElems (Fit rd rg pl rd_val elemAt)

/-- Each element is told as it stands. -/
def hR (v : Value) : Option (DataW Value × List MemPlace) := some (.held v, [])
abbrev Ents := List (Lit × Value)
def datE (E : Ents) : List (Lit × DataW Value) := E.map fun p => (p.1, DataW.held p.2)
/-- Block b is a map that holds just these entries. -/
def MapIs (P : Program) (k : TypeId) (b : Nat) (E : Ents) (w : World) : Prop :=
  E.Pairwise (fun p q => p.1 ≠ q.1) ∧ ∃ es, w.ownsMap P k hR b E.length (.map es) ∧ es.Perm (datE E)
def lookE (E : Ents) (kl : Lit) : Option Value := (E.find? fun p => p.1.sameKey kl).map (·.2)
def dropE (E : Ents) (kl : Lit) : Ents := E.filter fun p => !p.1.sameKey kl
def putE (E : Ents) (kl : Lit) (v : Value) : Ents := dropE E kl ++ [(kl, v)]

section
variable {P : Program} {k : TypeId} {b : Nat} {E : Ents} {w w' : World}
theorem MapIs.lt (h : MapIs P k b E w) : b < w.heap.size := by obtain ⟨_, _, h, _⟩ := h; exact h.lt
theorem MapIs.kept {row : Option Nat} (h : MapIs P k b E w) (hg : w.grownBy w' row) (hne : some b ≠ row) : MapIs P k b E w' := by
  obtain ⟨h1, es, h2, h3⟩ := h; exact ⟨h1, es, h2.kept hg hne, h3⟩
theorem MapIs.perm {E' : Ents} (h : MapIs P k b E w) (hp : E.Perm E') : MapIs P k b E' w := by
  obtain ⟨h1, es, h2, h3⟩ := h
  exact ⟨(hp.pairwise_iff (fun {_ _} hne => Ne.symm hne)).1 h1, es, hp.length_eq ▸ h2, h3.trans (hp.map _)⟩
theorem MapIs.made (P : Program) (k : TypeId) (w : World) : MapIs P k w.heap.size [] (w.alloc (.map #[] 0)) :=
  ⟨List.Pairwise.nil, [], World.ownsMap_made w P k hR, List.Perm.refl _⟩
theorem find_perm {α : Type} {f : α → Bool} : ∀ {l l' : List α}, l.Perm l' → l.Pairwise (fun p q => f p = true → f q = true → False) → l.find? f = l'.find? f := by
  intro l l' h
  induction h with
  | nil => intro _; rfl
  | cons x _ ih => intro hp; rw [List.find?_cons, List.find?_cons, ih (List.pairwise_cons.1 hp).2]
  | swap x y l =>
    intro hp
    have := (List.pairwise_cons.1 hp).1 x (by simp)
    rw [List.find?_cons, List.find?_cons, List.find?_cons, List.find?_cons]
    cases hx : f x <;> cases hy : f y <;> simp_all
  | trans h1 _ ih1 ih2 =>
    intro hp
    rw [ih1 hp, ih2 ((h1.pairwise_iff (fun {a b} (h : f a = true → f b = true → False) => fun h1 h2 => h h2 h1)).1 hp)]
theorem at_of_perm {es : List (Lit × DataW Value)} {kl : Lit} (hp : es.Perm (datE E)) (hd : E.Pairwise (fun p q => p.1 ≠ q.1)) (z : Value) :
    (DataW.map es).atKey kl (.held z) = .held ((lookE E kl).getD z) := by
  have hpw : (datE E).Pairwise (fun p q => p.1.sameKey kl = true → q.1.sameKey kl = true → False) := by
    unfold datE
    rw [List.pairwise_map]
    exact hd.imp (fun {p q} hne h1 h2 => hne ((WideAt.sameKey_eq h1).trans (WideAt.sameKey_eq h2).symm))
  simp only [DataW.atKey]
  rw [← find_perm hp.symm hpw]
  unfold datE lookE
  rw [List.find?_map]
  have e1 : ((fun p : Lit × DataW Value => p.1.sameKey kl) ∘ fun p : Lit × Value => (p.1, DataW.held p.2)) = fun p : Lit × Value => p.1.sameKey kl := rfl
  rw [e1]
  cases E.find? fun p => p.1.sameKey kl <;> rfl
/-- 'm[k]'. -/
theorem MapIs.look {t e : TypeId} (h : MapIs P k b E w) (K : Keyed P k) (ht : P.underlying t = some (.map k e)) {z : Value} (hz : (zeroValue e).run P w = .ok z w) {key : Value} {kl : Lit} (hkey : keyOf P k key = some kl) :
    (Instr.lookup t (.map (some b)) key false).run P w = .ok ((lookE E kl).getD z) w := by
  obtain ⟨h1, es, h2, h3⟩ := h
  obtain ⟨v, ps, hrun, hv⟩ := h2.lookup K ht hz (zd := .held z) (zp := []) rfl hkey
  rw [hrun]
  have hv' := congrArg (fun o => o.map Prod.fst) hv
  simp only [hR, Option.map_some, at_of_perm h3 h1 z] at hv'
  simp at hv'
  rw [hv']
theorem filter_perm {es : List (Lit × DataW Value)} {kl : Lit} (hp : es.Perm (datE E)) : (es.filter fun p => !p.1.sameKey kl).Perm (datE (dropE E kl)) := by
  refine (hp.filter _).trans ?_
  unfold datE dropE
  rw [List.filter_map]
  have e1 : ((fun p : Lit × DataW Value => !p.1.sameKey kl) ∘ fun p : Lit × Value => (p.1, DataW.held p.2)) = fun p : Lit × Value => !p.1.sameKey kl := rfl
  rw [e1]
theorem dropE_pw {kl : Lit} (hd : E.Pairwise (fun p q => p.1 ≠ q.1)) : (dropE E kl).Pairwise (fun p q => p.1 ≠ q.1) := hd.filter _
theorem putE_pw {kl : Lit} {v : Value} (hk : WideAt.IsKeyLit kl) (hd : E.Pairwise (fun p q => p.1 ≠ q.1)) : (putE E kl v).Pairwise (fun p q => p.1 ≠ q.1) := by
  unfold putE
  refine List.pairwise_append.2 ⟨hd.filter _, by simp, fun a ha b hb => ?_⟩
  have h1 := (List.mem_filter.1 ha).2
  simp at hb h1
  rw [hb]
  intro e
  rw [e, WideAt.sameKey_self hk] at h1
  cases h1
theorem size_of_owns {n : Nat} {es : List (Lit × DataW Value)} (h : w.ownsMap P k hR b n (.map es)) : w.ownsMap P k hR b es.length (.map es) := by
  obtain ⟨ms, clock, hb, F, hs, hD⟩ := h
  refine ⟨ms, clock, hb, F, ?_, hD⟩
  injection hD with hD
  rw [hD, length_sorted]; simp
theorem length_datE : (datE E).length = E.length := by simp [datE]
/-- 'm[k] = v'. -/
theorem MapIs.store {t e : TypeId} (h : MapIs P k b E w) (K : Keyed P k) (ht : P.underlying t = some (.map k e)) (hn : E.length < maxLen) {key val : Value} {kl : Lit} (hkey : keyOf P k key = some kl) :
    ∃ w', (Instr.mapUpdate t (.map (some b)) key val).run P w = .ok () w' ∧ MapIs P k b (putE E kl val) w' ∧ w.grownBy w' (some b) := by
  obtain ⟨h1, es, h2, h3⟩ := h
  obtain ⟨w', hrun, ho, hg⟩ := h2.update K ht hn hkey (val := val) (d := .held val) (ps := []) rfl
  refine ⟨w', hrun, ⟨putE_pw (K.key hkey) h1, DataW.insert (kl, .held val) (es.filter fun p => !p.1.sameKey kl), ?_, ?_⟩, hg⟩
  · have := size_of_owns (es := DataW.insert (kl, .held val) (es.filter fun p => !p.1.sameKey kl)) ho
    have hl : (DataW.insert (kl, DataW.held val) (es.filter fun p => !p.1.sameKey kl)).length = (putE E kl val).length := by
      rw [length_insert, (filter_perm h3).length_eq, length_datE]; simp [putE]
    rw [← hl]; exact this
  · refine (WideShapes.insert_perm _ _).trans ?_
    have h4 := filter_perm (kl := kl) h3
    refine (h4.cons (kl, DataW.held val)).trans ?_
    unfold putE
    show List.Perm _ (datE (dropE E kl ++ [(kl, val)]))
    unfold datE
    rw [List.map_append]
    exact (List.perm_append_singleton _ _).symm
/-- 'delete(m, k)'. -/
theorem MapIs.drop {t e : TypeId} (h : MapIs P k b E w) (K : Keyed P k) (ht : P.underlying t = some (.map k e)) {key : Value} {kl : Lit} (hkey : keyOf P k key = some kl) (ty : TypeId) :
    ∃ w', (Builtin.delete_ #[t, k] ty #[.map (some b), key]).run P w = .ok (.tuple #[]) w' ∧ MapIs P k b (dropE E kl) w' ∧ w.grownBy w' (some b) := by
  obtain ⟨h1, es, h2, h3⟩ := h
  obtain ⟨w', hrun, ho, hg⟩ := h2.drop K ht hkey ty
  refine ⟨w', hrun, ⟨dropE_pw h1, es.filter fun p => !p.1.sameKey kl, ?_, filter_perm h3⟩, hg.grown⟩
  have := size_of_owns (es := es.filter fun p => !p.1.sameKey kl) ho
  rw [(filter_perm h3).length_eq, length_datE] at this
  exact this
/-- 'clear(m)'. -/
theorem MapIs.clear {t e : TypeId} (h : MapIs P k b E w) (ht : P.underlying t = some (.map k e)) (ty : TypeId) :
    ∃ w', (Builtin.clear_ #[t] ty #[.map (some b)]).run P w = .ok (.tuple #[]) w' ∧ MapIs P k b [] w' ∧ w.grownBy w' (some b) := by
  obtain ⟨h1, es, h2, h3⟩ := h
  obtain ⟨ms, clock, hb, F, hs, hD⟩ := h2
  refine ⟨ChangeMaps.setBlock w b (.map #[] clock), ?_, ⟨List.Pairwise.nil, [], ⟨#[], clock, ChangeMaps.heap_setBlock_same hb _, ⟨by simp, MapKept.stamped_empty _, by simp⟩, by simp, rfl⟩, List.Perm.refl _⟩, World.mapTurned.grown ⟨ms, clock, #[], clock, hb, rfl⟩⟩
  simp [Builtin.clear_, run_underlying ht, MapKept.run_getObj_map hb, MapKept.run_setObj_map _ hb, Result.andThen, ChangeMaps.setBlock]
theorem MapIs.keysPerm (h : MapIs P k b E w) : ∃ D, w.ownsMap P k hR b E.length D ∧ (strKeys D).Perm (E.map fun p => strOf p.1) ∧ Maps.size D = E.length ∧ Maps.IsMap D := by
  obtain ⟨h1, es, h2, h3⟩ := h
  refine ⟨.map es, h2, ?_, ?_, ⟨es, rfl⟩⟩
  · have := h3.map fun p => strOf p.1
    unfold datE at this
    rw [List.map_map] at this
    exact this
  · rw [Maps.size_eq, h3.length_eq, length_datE]
end
/-! ### at the operation, for the walk -/
section
variable {P : Program} (w : World) {ops : Array Oper} {rest : List Oper} {o : Oper} {a : Act} {Q : Exit → Act → World → Prop}
theorem wpList_lookup_map (hg : o.guard = none) (m x : Operand) (t : TypeId) (hop : o.op = Op.lookup t m x false)
    (k e : TypeId) (K : Keyed P k) (ht : P.underlying t = some (.map k e)) (z : Value) (hz : (zeroValue e).run P w = .ok z w) (b : Nat) (E : Ents) (hm : a.eval m = .map (some b)) (H : MapIs P k b E w)
    (key : Value) (kl : Lit) (hx : a.eval x = key) (hkey : keyOf P k key = some kl) (v : Value) (hv : (lookE E kl).getD z = v) (hK : wpList P ops Q rest (a.put o.dst v) w) : wpList P ops Q (o :: rest) a w := by
  refine wpList_plain hg fun K' hK' => ?_
  have hrun := H.look K ht hz hkey
  rw [hv] at hrun
  unfold Oper.wp
  simp [execOp, hop, hm, hx, hrun, Result.andThen]
  exact hK' _ _ hK
theorem wpList_store_map (hg : o.guard = none) (m x v : Operand) (t : TypeId) (hop : o.op = Op.mapUpdate t m x v)
    (k e : TypeId) (K : Keyed P k) (ht : P.underlying t = some (.map k e)) (b : Nat) (E : Ents) (hm : a.eval m = .map (some b)) (H : MapIs P k b E w) (hn : E.length < maxLen)
    (key val : Value) (kl : Lit) (hx : a.eval x = key) (hv : a.eval v = val) (hkey : keyOf P k key = some kl)
    (hK : ∀ w', MapIs P k b (putE E kl val) w' → w.grownBy w' (some b) → wpList P ops Q rest (a.put o.dst undef) w') : wpList P ops Q (o :: rest) a w := by
  refine wpList_plain hg fun K' hK' => ?_
  obtain ⟨w', hrun, r1, r2⟩ := H.store K ht hn hkey (val := val)
  unfold Oper.wp
  simp [execOp, hop, hm, hx, hv, hrun, Result.andThen]
  exact hK' _ _ (hK w' r1 r2)
theorem wpList_delete_map (hg : o.guard = none) (m x : Operand) (t k : TypeId) (hop : o.op = Op.call { callee := Callee.builtin Builtin.delete, args := #[m, x], argTypes := #[t, k] })
    (e : TypeId) (K : Keyed P k) (ht : P.underlying t = some (.map k e)) (b : Nat) (E : Ents) (hm : a.eval m = .map (some b)) (H : MapIs P k b E w)
    (key : Value) (kl : Lit) (hx : a.eval x = key) (hkey : keyOf P k key = some kl)
    (hK : ∀ w', MapIs P k b (dropE E kl) w' → w.grownBy w' (some b) → wpList P ops Q rest (a.put o.dst (.tuple #[])) w') : wpList P ops Q (o :: rest) a w := by
  refine wpList_plain hg fun K' hK' => ?_
  obtain ⟨w', hrun, r1, r2⟩ := H.drop K ht hkey o.type
  unfold Oper.wp
  simp [execOp, hop, resolve, invoke, builtin, hm, hx, hrun, Result.andThen]
  exact hK' _ _ (hK w' r1 r2)
theorem wpList_clear_map (hg : o.guard = none) (m : Operand) (t : TypeId) (hop : o.op = Op.call { callee := Callee.builtin Builtin.clear, args := #[m], argTypes := #[t] })
    (k e : TypeId) (ht : P.underlying t = some (.map k e)) (b : Nat) (E : Ents) (hm : a.eval m = .map (some b)) (H : MapIs P k b E w)
    (hK : ∀ w', MapIs P k b [] w' → w.grownBy w' (some b) → wpList P ops Q rest (a.put o.dst (.tuple #[])) w') : wpList P ops Q (o :: rest) a w := by
  refine wpList_plain hg fun K' hK' => ?_
  obtain ⟨w', hrun, r1, r2⟩ := H.clear ht o.type
  unfold Oper.wp
  simp [execOp, hop, resolve, invoke, builtin, hm, hrun, Result.andThen]
  exact hK' _ _ (hK w' r1 r2)
end
end Go.Proofs.YtklcjimmbkpbdaaGreatDoor
