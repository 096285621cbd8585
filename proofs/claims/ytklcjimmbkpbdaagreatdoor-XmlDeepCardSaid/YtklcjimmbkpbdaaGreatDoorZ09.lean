/-
  Maps as lists of entries, each element as it stands; the operations on them. No conditions.
-/
import Derived.Maps.RangeWalk
import Derived.Sort.KeysCollected
namespace Go.Proofs.YtklcjimmbkpbdaaGreatDoor
open Go.RowKit
open Go.Maps
open Go.WideElems (Fit rd rg pl rd_val elemAt)
def hR (v : Value) : Option (DataW Value × List MemPlace) := some (.held v, [])
abbrev Ents := List (Lit × Value)
def datE (E : Ents) : List (Lit × DataW Value) := E.map fun p => (p.1, DataW.held p.2)
def MapIs (P : Program) (k : TypeId) (b : Nat) (E : Ents) (w : World) : Prop :=
 E.Pairwise (fun p q => p.1 ≠ q.1) ∧ ∃ es, w.ownsMap P k hR b E.length (.map es) ∧ es.Perm (datE E)
def lookE (E : Ents) (kl : Lit) : Option Value := (E.find? fun p => p.1.sameKey kl).map (·.2)
def dropE (E : Ents) (kl : Lit) : Ents := E.filter fun p => !p.1.sameKey kl
def putE (E : Ents) (kl : Lit) (v : Value) : Ents := dropE E kl ++ [(kl, v)]
section
variable {P : Program} {k : TypeId} {b : Nat} {E : Ents} {w w' : World}
theorem MapIs.lt (h : MapIs P k b E w) : b < w.heap.size := by obtain ⟨_, _, h, _⟩ := h; exact h.lt
theorem MapIs.kept {row : Option Nat} (h : MapIs P k b E w) (hg : w.grownBy w' row) (hne : some b ≠ row) : MapIs P k b E w' := by
 obtain ⟨h1, es, h2, h3⟩ := h; exact ⟨h1, es, h2.kept hg hne, h3⟩
theorem MapIs.made (P : Program) (k : TypeId) (w : World) : MapIs P k w.heap.size [] (w.alloc (.map #[] 0)) :=
 ⟨List.Pairwise.nil, [], World.ownsMap_made w P k hR, List.Perm.refl _⟩
theorem find_perm {α : Type} {f : α → Bool} : ∀ {l l' : List α}, l.Perm l' → l.Pairwise (fun p q => f p = true → f q = true → False) → l.find? f = l'.find? f := by
 intro l l' h
 induction h with
 | nil => intro _; rfl
 | cons x _ ih => intro hp; rw [List.find?_cons, List.find?_cons, ih (List.pairwise_cons.1 hp).2]
 | swap x y l =>
  intro hp
  have := (List.pairwise_cons.1 hp).1 x (by simp)
  rw [List.find?_cons, List.find?_cons, List.find?_cons, List.find?_cons]
  cases hx : f x <;> cases hy : f y <;> simp_all
 | trans h1 _ ih1 ih2 =>
  intro hp
  rw [ih1 hp, ih2 ((h1.pairwise_iff (fun {a b} (h : f a = true → f b = true → False) => fun h1 h2 => h h2 h1)).1 hp)]
theorem at_of_perm {es : List (Lit × DataW Value)} {kl : Lit} (hp : es.Perm (datE E)) (hd : E.Pairwise (fun p q => p.1 ≠ q.1)) (z : Value) :
    (DataW.map es).atKey kl (.held z) = .held ((lookE E kl).getD z) := by
 have hpw : (datE E).Pairwise (fun p q => p.1.sameKey kl = true → q.1.sameKey kl = true → False) := by
  unfold datE
  rw [List.pairwise_map]
  exact hd.imp (fun {p q} hne h1 h2 => hne ((WideAt.sameKey_eq h1).trans (WideAt.sameKey_eq h2).symm))
 simp only [DataW.atKey]
 rw [← find_perm hp.symm hpw]
 unfold datE lookE
 rw [List.find?_map]
 have e1 : ((fun p : Lit × DataW Value => p.1.sameKey kl) ∘ fun p : Lit × Value => (p.1, DataW.held p.2)) = fun p : Lit × Value => p.1.sameKey kl := rfl
 rw [e1]
 cases E.find? fun p => p.1.sameKey kl <;> rfl
theorem MapIs.look {t e : TypeId} (h : MapIs P k b E w) (K : Keyed P k) (ht : P.underlying t = some (.map k e)) {z : Value} (hz : (zeroValue e).run P w = .ok z w) {key : Value} {kl : Lit} (hkey : keyOf P k key = some kl) :
    (Instr.lookup t (.map (some b)) key false).run P w = .ok ((lookE E kl).getD z) w := by
 obtain ⟨h1, es, h2, h3⟩ := h
 obtain ⟨v, ps, hrun, hv⟩ := h2.lookup K ht hz (zd := .held z) (zp := []) rfl hkey
 rw [hrun]
 have hv' := congrArg (fun o => o.map Prod.fst) hv
 simp only [hR, Option.map_some, at_of_perm h3 h1 z] at hv'
 simp at hv'
 rw [hv']
theorem filter_perm {es : List (Lit × DataW Value)} {kl : Lit} (hp : es.Perm (datE E)) : (es.filter fun p => !p.1.sameKey kl).Perm (datE (dropE E kl)) := by
 refine (hp.filter _).trans ?_
 unfold datE dropE
 rw [List.filter_map]
 have e1 : ((fun p : Lit × DataW Value => !p.1.sameKey kl) ∘ fun p : Lit × Value => (p.1, DataW.held p.2)) = fun p : Lit × Value => !p.1.sameKey kl := rfl
 rw [e1]
theorem putE_pw {kl : Lit} {v : Value} (hk : WideAt.IsKeyLit kl) (hd : E.Pairwise (fun p q => p.1 ≠ q.1)) : (putE E kl v).Pairwise (fun p q => p.1 ≠ q.1) := by
 unfold putE
 refine List.pairwise_append.2 ⟨hd.filter _, by simp, fun a ha b hb => ?_⟩
 have h1 := (List.mem_filter.1 ha).2
 simp at hb h1
 rw [hb]
 intro e
 rw [e, WideAt.sameKey_self hk] at h1
 cases h1
theorem size_of_owns {n : Nat} {es : List (Lit × DataW Value)} (h : w.ownsMap P k hR b n (.map es)) : w.ownsMap P k hR b es.length (.map es) := by
 obtain ⟨ms, clock, hb, F, hs, hD⟩ := h
 refine ⟨ms, clock, hb, F, ?_, hD⟩
 injection hD with hD
 rw [hD, length_sorted]; simp
theorem length_datE : (datE E).length = E.length := by simp [datE]
theorem MapIs.store {t e : TypeId} (h : MapIs P k b E w) (K : Keyed P k) (ht : P.underlying t = some (.map k e)) (hn : E.length < maxLen) {key val : Value} {kl : Lit} (hkey : keyOf P k key = some kl) :
    ∃ w', (Instr.mapUpdate t (.map (some b)) key val).run P w = .ok () w' ∧ MapIs P k b (putE E kl val) w' ∧ w.grownBy w' (some b) := by
 obtain ⟨h1, es, h2, h3⟩ := h
 obtain ⟨w', hrun, ho, hg⟩ := h2.update K ht hn hkey (val := val) (d := .held val) (ps := []) rfl
 refine ⟨w', hrun, ⟨putE_pw (K.key hkey) h1, DataW.insert (kl, .held val) (es.filter fun p => !p.1.sameKey kl), ?_, ?_⟩, hg⟩
 ·have := size_of_owns (es := DataW.insert (kl, .held val) (es.filter fun p => !p.1.sameKey kl)) ho
  have hl : (DataW.insert (kl, DataW.held val) (es.filter fun p => !p.1.sameKey kl)).length = (putE E kl val).length := by
   rw [length_insert, (filter_perm h3).length_eq, length_datE]; simp [putE]
  rw [← hl]; exact this
 ·refine (WideShapes.insert_perm _ _).trans ?_
  have h4 := filter_perm (kl := kl) h3
  refine (h4.cons (kl, DataW.held val)).trans ?_
  unfold putE
  show List.Perm _ (datE (dropE E kl ++ [(kl, val)]))
  unfold datE
  rw [List.map_append]
  exact (List.perm_append_singleton _ _).symm
end
section
variable {P : Program} (w : World) {ops : Array Oper} {rest : List Oper} {o : Oper} {a : Act} {Q : Exit → Act → World → Prop}
end
end Go.Proofs.YtklcjimmbkpbdaaGreatDoor
