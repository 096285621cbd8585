/-
  Nodes of XML, plain: what they weigh; attributes without like names. No conditions.
-/
import Derived.Test.YtklcjimmbkpbdaaGreatDoorZ15
namespace Go.Proofs.YtklcjimmbkpbdaaGreatDoor
open Go.Lib

def wA (l : List XA) : Nat := (l.map fun a => a.1.length + a.2.1.length + a.2.2.length + 1).sum
mutual
/-- How much a node has. -/
def wX : XV → Nat
  | .mk sp nm al ks tx => 1 + sp.length + nm.length + tx.length + wA al + wXs ks
def wXs : List XV → Nat
  | [] => 0
  | v :: l => wX v + wXs l
end
theorem wX_eq (v : XV) : wX v = 1 + v.space.length + v.name.length + v.text.length + wA v.attrs + wXs v.kids := by
  obtain ⟨sp, nm, al, ks, tx⟩ := v
  rw [wX]
  rfl
theorem wA_mem : ∀ {l : List XA} {a : XA}, a ∈ l → a.1.length + a.2.1.length + a.2.2.length + 1 ≤ wA l
  | b :: l, a, h => by
    rw [wA, List.map_cons, List.sum_cons]
    rcases List.mem_cons.1 h with e | h
    · subst e; omega
    · have := wA_mem h
      unfold wA at this
      omega
theorem wA_len (l : List XA) : l.length ≤ wA l := by
  induction l with
  | nil => exact Nat.le_refl _
  | cons a l ih =>
    unfold wA at ih ⊢
    rw [List.map_cons, List.sum_cons, List.length_cons]
    omega
theorem wXs_mem : ∀ {l : List XV} {v : XV}, v ∈ l → wX v ≤ wXs l
  | b :: l, v, h => by
    rw [wXs]
    rcases List.mem_cons.1 h with e | h
    · subst e; omega
    · have := wXs_mem h
      omega
theorem wXs_len (l : List XV) : l.length ≤ wXs l := by
  induction l with
  | nil => exact Nat.zero_le _
  | cons v l ih =>
    rw [wXs, List.length_cons, wX_eq]
    omega
theorem wXs_append (a b : List XV) : wXs (a ++ b) = wXs a + wXs b := by
  induction a with
  | nil => rw [List.nil_append, wXs]; omega
  | cons v a ih => rw [List.cons_append, wXs, wXs, ih]; omega
/-- Attributes without a space are unlike where their names are. -/
theorem uniq_names : ∀ {l : List XA}, l.all rightAttrB = true → uniqX l = decide (l.map (·.2.1)).Nodup := by
  intro l h
  have hs : ∀ a ∈ l, a.1 = [] := fun a ha => (attr_space (List.all_eq_true.1 h a ha)).1
  have e : l.map (fun a => (a.1, a.2.1)) = (l.map (·.2.1)).map (fun n => (([] : Bt), n)) := by
    rw [List.map_map]
    refine List.map_congr_left fun a ha => ?_
    rw [hs a ha]
    rfl
  unfold uniqX
  rw [e]
  have hn : ((l.map (·.2.1)).map (fun n => (([] : Bt), n))).Nodup ↔ (l.map (·.2.1)).Nodup := by
    constructor
    · intro h
      unfold List.Nodup at h ⊢
      rw [List.pairwise_map] at h
      exact h.imp (fun hab e => hab (by rw [e]))
    · intro h
      unfold List.Nodup at h ⊢
      rw [List.pairwise_map]
      exact h.imp (fun hab e => hab (congrArg Prod.snd e))
  exact decide_eq_decide.2 hn
theorem right_attrs {l : List XA} (h : l.all rightAttrB = true) : rightAttrsB l = uniqX l := by
  unfold rightAttrsB
  rw [h, uniq_names h, Bool.true_and]
theorem right_attrs_no {l : List XA} {k : Nat} (h : k < l.length) (hb : rightAttrB l[k] = false) : rightAttrsB l = false := by
  unfold rightAttrsB
  have : l.all rightAttrB = false := by
    cases hq : l.all rightAttrB with
    | false => rfl
    | true =>
      have := List.all_eq_true.1 hq _ (List.getElem_mem h)
      rw [hb] at this
      cases this
  rw [this, Bool.false_and]
def prevB (ks : List XV) : Nat → Bool
  | 0 => false
  | i + 1 => match ks[i]? with | some k => k.name == [] | none => false
theorem rightKids_step {f : XV → Bool} {ks : List XV} {i : Nat} (h : i < ks.length) : rightKidsB f (prevB ks i) (ks.drop i) = ((if ks[i].name = [] then rightTextB ks[i] && !prevB ks i else f ks[i]) && rightKidsB f (prevB ks (i + 1)) (ks.drop (i + 1))) := by
  rw [List.drop_eq_getElem_cons h, rightKidsB]
  congr 2
  show _ = match ks[i]? with | some k => k.name == [] | none => false
  rw [List.getElem?_eq_getElem h]
end Go.Proofs.YtklcjimmbkpbdaaGreatDoor
