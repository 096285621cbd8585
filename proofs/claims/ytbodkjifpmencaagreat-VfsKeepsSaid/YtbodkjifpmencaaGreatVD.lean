/-
  A disk of layer 6 in memory: its blocks, what each step may turn of them. No conditions.
-/
import Derived.Test.YtbodkjifpmencaaGreatVB
namespace Go.Proofs.YtbodkjifpmencaaGreat
open Go.RowKit
open Go.Lib

abbrev TD : TypeId := 60
abbrev TB : TypeId := 73
abbrev TC : TypeId := 112
/-- Where a disk's parts lie. -/
structure Lay where
  d : Nat
  mn : Nat
  mq : Nat
  mc : Nat
  ml : Nat
  bl : Nat → Nat
  bv : Nat → Value
  cv : Bs → Value
def ptr (b : Nat) : Value := .pointer (some ⟨b, 0, none⟩)
def ptrO (L : Lay) (o : Option Nat) : Value := match o with | none => .pointer none | some k => ptr (L.bl k)
def dcells (L : Lay) (q : Q) : Array Value := #[.int .i64 q.room, .map (some L.mn), .map (some L.mq), .map (some L.mc), .map (some L.ml), .int .i64 (q.bodies.length : Int), .bool q.told, .int .i64 q.ahead, .bool q.once]
def bcells (k : Nat) (v : Value) (kept : Nat) : Array Value := #[.int .i64 (k : Int), v, .int .i64 (kept : Int)]
def entN (L : Lay) (n : Nm) : Ents := n.map fun x => (Lit.string x.1, ptr (L.bl x.2))
def entL (L : Lay) (l : List (Nat × Unit)) : Ents := l.map fun x => (Lit.int .i64 (x.1 : Int), ptr (L.bl x.1))
def entC (L : Lay) (c : List (Bs × List QC)) : Ents := c.map fun x => (Lit.string x.1, L.cv x.1)
def cellsC (L : Lay) (cs : List QC) : List Value := cs.flatMap fun c => [.string (bs c.frm), .string (bs c.to), ptrO L c.body]
def upd {α β : Type} [DecidableEq α] (f : α → β) (k : α) (v : β) : α → β := fun j => if j = k then v else f j
theorem upd_same {α β : Type} [DecidableEq α] (f : α → β) (k : α) (v : β) : upd f k v k = v := by simp [upd]
theorem upd_ne {α β : Type} [DecidableEq α] (f : α → β) {k j : α} (v : β) (h : j ≠ k) : upd f k v j = f j := by simp [upd, h]

/-- This is the disk q, laid so. -/
structure QD (L : Lay) (q : Q) (w : World) : Prop where
  disk : Blk L.d (.cells (dcells L q) TD (0, 0)) w
  names : MapIs Tryz.prog 9 L.mn (entN L q.names) w
  kept : MapIs Tryz.prog 9 L.mq (entN L q.kept) w
  changes : MapIs Tryz.prog 9 L.mc (entC L q.changes) w
  loose : MapIs Tryz.prog 3 L.ml (entL L q.loose) w
  bod : ∀ k, k < q.bodies.length → Blk (L.bl k) (.cells (bcells k (L.bv k) (qbody q k).kept) TB (0, 0)) w
  row : ∀ k, k < q.bodies.length → OwnB w 0 (L.bv k) (qbody q k).now
  chg : ∀ x ∈ q.changes, w.ownsRow 0 TC 3 (L.cv x.1) x.2.length (cellsC L x.2)
  nk : L.mn ≠ L.mq
  nc : L.mn ≠ L.mc
  nl : L.mn ≠ L.ml
  kc : L.mq ≠ L.mc
  kl : L.mq ≠ L.ml
  cl : L.mc ≠ L.ml
  rows : ∀ k j b, k < q.bodies.length → j < q.bodies.length → k ≠ j → (L.bv k).ownBlock = some b → (L.bv j).ownBlock ≠ some b
  chs : ∀ x y b, x ∈ q.changes → y ∈ q.changes → x.1 ≠ y.1 → (L.cv x.1).ownBlock = some b → (L.cv y.1).ownBlock ≠ some b
/-- The blocks that are the disk's own. -/
def foot (L : Lay) (q : Q) (b : Nat) : Prop :=
  b = L.d ∨ b = L.mn ∨ b = L.mq ∨ b = L.mc ∨ b = L.ml ∨ (∃ k, k < q.bodies.length ∧ (b = L.bl k ∨ (L.bv k).ownBlock = some b)) ∨ ∃ x, x ∈ q.changes ∧ (L.cv x.1).ownBlock = some b

def kindOf : Obj → Option TypeId
  | .cells _ t _ => some t
  | _ => none
def kindAt (w : World) (b : Nat) : Option (Option TypeId) := (w.heap[b]?).map kindOf
theorem Blk.kind {b : Nat} {o : Obj} {w : World} (h : Blk b o w) : kindAt w b = some (kindOf o) := by unfold kindAt; rw [h]; rfl
theorem MapIs.kind {P : Program} {k : TypeId} {b : Nat} {E : Ents} {w : World} (h : MapIs P k b E w) : kindAt w b = some none := by
  obtain ⟨_, es, ⟨ms, clock, hb, _⟩, _⟩ := h
  unfold kindAt; rw [hb]; rfl
theorem row_kind {w : World} {base size n : Nat} {e : TypeId} {v : Value} {xs : List Value} (h : w.ownsRow base e size v n xs) {b : Nat} (hb : v.ownBlock = some b) : kindAt w b = some (some e) := by
  obtain ⟨cur, h⟩ := own_kind h hb
  exact h.kind
theorem ne_kind {w : World} {a b : Nat} {x y : Option TypeId} (ha : kindAt w a = some x) (hb : kindAt w b = some y) (h : x ≠ y) : a ≠ b := fun e => by
  rw [e, hb] at ha; exact h (Option.some.inj ha).symm
theorem MapIs.off {P : Program} {k : TypeId} {b : Nat} {E : Ents} {w w' : World} {F : Nat → Prop} (h : MapIs P k b E w) (ho : Off F w w') (hF : ¬ F b) : MapIs P k b E w' := by
  have hl := h.lt
  obtain ⟨h1, es, ⟨ms, clock, hb, rest⟩, h3⟩ := h
  exact ⟨h1, es, ⟨ms, clock, (ho.block b hl hF).trans hb, rest⟩, h3⟩
section
variable {L : Lay} {q : Q} {w w' : World}
theorem QD.foot_lt (H : QD L q w) {b : Nat} (h : foot L q b) : b < w.heap.size := by
  rcases h with rfl | rfl | rfl | rfl | rfl | ⟨k, hk, rfl | h⟩ | ⟨x, hx, h⟩
  · exact H.disk.lt
  · exact H.names.lt
  · exact H.kept.lt
  · exact H.changes.lt
  · exact H.loose.lt
  · exact (H.bod k hk).lt
  · exact ((H.row k hk).lt b h).2
  · exact ((H.chg x hx).lt b h).2
theorem QD.kd (H : QD L q w) : kindAt w L.d = some (some TD) := H.disk.kind
theorem QD.kb (H : QD L q w) {k : Nat} (hk : k < q.bodies.length) : kindAt w (L.bl k) = some (some TB) := (H.bod k hk).kind
theorem QD.kr (H : QD L q w) {k b : Nat} (hk : k < q.bodies.length) (h : (L.bv k).ownBlock = some b) : kindAt w b = some (some 5) := row_kind (H.row k hk) h
theorem QD.kg (H : QD L q w) {x : Bs × List QC} {b : Nat} (hx : x ∈ q.changes) (h : (L.cv x.1).ownBlock = some b) : kindAt w b = some (some TC) := row_kind (H.chg x hx) h
theorem QD.bl_inj (H : QD L q w) {k j : Nat} (hk : k < q.bodies.length) (hj : j < q.bodies.length) (hne : k ≠ j) : L.bl k ≠ L.bl j := fun e => by
  have h1 := H.bod k hk
  have h2 := H.bod j hj
  rw [e] at h1
  unfold Blk at h1 h2
  rw [h2] at h1
  simp [bcells] at h1
  omega
/-- Nothing of the disk's own has turned. -/
theorem QD.off {F : Nat → Prop} (H : QD L q w) (ho : Off F w w') (hF : ∀ b, F b → ¬ foot L q b) : QD L q w' where
  disk := ho.blk H.disk (fun h => hF _ h (.inl rfl))
  names := H.names.off ho (fun h => hF _ h (.inr (.inl rfl)))
  kept := H.kept.off ho (fun h => hF _ h (.inr (.inr (.inl rfl))))
  changes := H.changes.off ho (fun h => hF _ h (.inr (.inr (.inr (.inl rfl)))))
  loose := H.loose.off ho (fun h => hF _ h (.inr (.inr (.inr (.inr (.inl rfl))))))
  bod := fun k hk => ho.blk (H.bod k hk) (fun h => hF _ h (.inr (.inr (.inr (.inr (.inr (.inl ⟨k, hk, .inl rfl⟩)))))))
  row := fun k hk => (H.row k hk).off ho (fun _b hb h => hF _ h (.inr (.inr (.inr (.inr (.inr (.inl ⟨k, hk, .inr hb⟩)))))))
  chg := fun x hx => own_off (H.chg x hx) ho (fun _b hb h => hF _ h (.inr (.inr (.inr (.inr (.inr (.inr ⟨x, hx, hb⟩)))))))
  nk := H.nk
  nc := H.nc
  nl := H.nl
  kc := H.kc
  kl := H.kl
  cl := H.cl
  rows := H.rows
  chs := H.chs
theorem QD.below (H : QD L q w) (hb : Below w.heap.size w w') : QD L q w' := H.off (Off.of_below hb) (fun _ h => h.elim)
theorem QD.drew (H : QD L q w) : QD L q w.drew := H.off (F := fun _ => False) ⟨rfl, rfl, rfl, Nat.le_refl _, fun _ _ _ => rfl⟩ (fun _ h => h.elim)
/-- The disk's own block has turned: what it counts and whether it fails. -/
theorem QD.setD (H : QD L q w) (g : w.grownBy w' (some L.d)) (q' : Q) (h1 : q'.bodies = q.bodies) (h2 : q'.names = q.names) (h3 : q'.kept = q.kept) (h4 : q'.changes = q.changes) (h5 : q'.loose = q.loose) (hd : Blk L.d (.cells (dcells L q') TD (0, 0)) w') : QD L q' w' := by
  have ho : Off (fun b => some L.d = some b) w w' := Off.of_grown g
  have hq : ∀ k, qbody q' k = qbody q k := fun k => by unfold qbody; rw [h1]
  refine ⟨hd, ?_, ?_, ?_, ?_, ?_, ?_, ?_, H.nk, H.nc, H.nl, H.kc, H.kl, H.cl, ?_, ?_⟩
  · rw [h2]; exact H.names.off ho (fun e => ne_kind H.kd H.names.kind (by simp) (Option.some.inj e))
  · rw [h3]; exact H.kept.off ho (fun e => ne_kind H.kd H.kept.kind (by simp) (Option.some.inj e))
  · rw [h4]; exact H.changes.off ho (fun e => ne_kind H.kd H.changes.kind (by simp) (Option.some.inj e))
  · rw [h5]; exact H.loose.off ho (fun e => ne_kind H.kd H.loose.kind (by simp) (Option.some.inj e))
  · intro k hk; rw [h1] at hk; rw [hq]; exact ho.blk (H.bod k hk) (fun e => ne_kind H.kd (H.kb hk) (by decide) (Option.some.inj e))
  · intro k hk; rw [h1] at hk; rw [hq]; exact (H.row k hk).off ho (fun b hb e => ne_kind H.kd (H.kr hk hb) (by decide) (Option.some.inj e))
  · intro x hx; rw [h4] at hx; exact own_off (H.chg x hx) ho (fun b hb e => ne_kind H.kd (H.kg hx hb) (by decide) (Option.some.inj e))
  · intro k j b hk hj; rw [h1] at hk hj; exact H.rows k j b hk hj
  · intro x y b hx hy; rw [h4] at hx hy; exact H.chs x y b hx hy
/-- What is told of the names' map. -/
theorem Off.drew {F : Nat → Prop} (h : Off F w w') : Off F w w'.drew := ⟨h.os, h.tape, h.output, h.size, h.block⟩
theorem QD.setN (H : QD L q w) (g : w.grownBy w' (some L.mn)) (n : Nm) (hm : MapIs Tryz.prog 9 L.mn (entN L n) w') : QD L { q with names := n } w' := by
  have ho : Off (fun b => some L.mn = some b) w w' := Off.of_grown g
  refine ⟨ho.blk H.disk (fun e => ne_kind H.names.kind H.kd (by simp) (Option.some.inj e)), hm, H.kept.off ho (fun e => H.nk (Option.some.inj e)), H.changes.off ho (fun e => H.nc (Option.some.inj e)), H.loose.off ho (fun e => H.nl (Option.some.inj e)), ?_, ?_, ?_, H.nk, H.nc, H.nl, H.kc, H.kl, H.cl, H.rows, H.chs⟩
  · exact fun k hk => ho.blk (H.bod k hk) (fun e => ne_kind H.names.kind (H.kb hk) (by simp) (Option.some.inj e))
  · exact fun k hk => (H.row k hk).off ho (fun b hb e => ne_kind H.names.kind (H.kr hk hb) (by simp) (Option.some.inj e))
  · exact fun x hx => own_off (H.chg x hx) ho (fun b hb e => ne_kind H.names.kind (H.kg hx hb) (by simp) (Option.some.inj e))
theorem QD.setK (H : QD L q w) (g : w.grownBy w' (some L.mq)) (n : Nm) (hm : MapIs Tryz.prog 9 L.mq (entN L n) w') : QD L { q with kept := n } w' := by
  have ho : Off (fun b => some L.mq = some b) w w' := Off.of_grown g
  refine ⟨ho.blk H.disk (fun e => ne_kind H.kept.kind H.kd (by simp) (Option.some.inj e)), H.names.off ho (fun e => H.nk (Option.some.inj e).symm), hm, H.changes.off ho (fun e => H.kc (Option.some.inj e)), H.loose.off ho (fun e => H.kl (Option.some.inj e)), ?_, ?_, ?_, H.nk, H.nc, H.nl, H.kc, H.kl, H.cl, H.rows, H.chs⟩
  · exact fun k hk => ho.blk (H.bod k hk) (fun e => ne_kind H.kept.kind (H.kb hk) (by simp) (Option.some.inj e))
  · exact fun k hk => (H.row k hk).off ho (fun b hb e => ne_kind H.kept.kind (H.kr hk hb) (by simp) (Option.some.inj e))
  · exact fun x hx => own_off (H.chg x hx) ho (fun b hb e => ne_kind H.kept.kind (H.kg hx hb) (by simp) (Option.some.inj e))
theorem QD.setL (H : QD L q w) (g : w.grownBy w' (some L.ml)) (n : List (Nat × Unit)) (hm : MapIs Tryz.prog 3 L.ml (entL L n) w') : QD L { q with loose := n } w' := by
  have ho : Off (fun b => some L.ml = some b) w w' := Off.of_grown g
  refine ⟨ho.blk H.disk (fun e => ne_kind H.loose.kind H.kd (by simp) (Option.some.inj e)), H.names.off ho (fun e => H.nl (Option.some.inj e).symm), H.kept.off ho (fun e => H.kl (Option.some.inj e).symm), H.changes.off ho (fun e => H.cl (Option.some.inj e).symm), hm, ?_, ?_, ?_, H.nk, H.nc, H.nl, H.kc, H.kl, H.cl, H.rows, H.chs⟩
  · exact fun k hk => ho.blk (H.bod k hk) (fun e => ne_kind H.loose.kind (H.kb hk) (by simp) (Option.some.inj e))
  · exact fun k hk => (H.row k hk).off ho (fun b hb e => ne_kind H.loose.kind (H.kr hk hb) (by simp) (Option.some.inj e))
  · exact fun x hx => own_off (H.chg x hx) ho (fun b hb e => ne_kind H.loose.kind (H.kg hx hb) (by simp) (Option.some.inj e))
theorem entN_upd (L : Lay) (k : Nat) (v : Value) (n : Nm) : entN { L with bv := upd L.bv k v } n = entN L n := rfl
theorem qbody_set (q : Q) (k j : Nat) (x : QB) (hk : k < q.bodies.length) : qbody { q with bodies := q.bodies.set k x } j = if j = k then x else qbody q j := by
  unfold qbody
  simp only [List.getD, List.getElem?_set]
  by_cases h : k = j
  · subst h; simp [hk]
  · simp [h, Ne.symm h]
/-- One body has turned: its bytes, how many of them are kept. -/
theorem QD.setB (H : QD L q w) {k : Nat} (hk : k < q.bodies.length) (ho : Off (fun b => b = L.bl k ∨ (L.bv k).ownBlock = some b) w w') (v : Value) (now : Bs) (kept : Nat)
    (hb : Blk (L.bl k) (.cells (bcells k v kept) TB (0, 0)) w') (hr : OwnB w' 0 v now) (hl : ∀ b, v.ownBlock = some b → (L.bv k).ownBlock = some b ∨ w.heap.size ≤ b) :
    QD { L with bv := upd L.bv k v } { q with bodies := q.bodies.set k ⟨now, kept⟩ } w' := by
  have nb : ∀ {b x}, kindAt w b = some x → x ≠ some TB → x ≠ some 5 → ¬ (b = L.bl k ∨ (L.bv k).ownBlock = some b) := fun hx h1 h2 e => by
    rcases e with e | e
    · exact ne_kind hx (H.kb hk) h1 e
    · exact ne_kind hx (H.kr hk e) h2 rfl
  refine ⟨?_, H.names.off ho (nb H.names.kind (by simp) (by simp)), H.kept.off ho (nb H.kept.kind (by simp) (by simp)), H.changes.off ho (nb H.changes.kind (by simp) (by simp)), H.loose.off ho (nb H.loose.kind (by simp) (by simp)), ?_, ?_, ?_, H.nk, H.nc, H.nl, H.kc, H.kl, H.cl, ?_, H.chs⟩
  · have e : dcells { L with bv := upd L.bv k v } { q with bodies := q.bodies.set k ⟨now, kept⟩ } = dcells L q := by simp [dcells]
    rw [e]
    exact ho.blk H.disk (nb H.kd (by decide) (by decide))
  · intro j hj
    have hj' : j < q.bodies.length := by simpa using hj
    rw [qbody_set q k j _ hk]
    by_cases e : j = k
    · subst e; simp only [if_true, upd_same]; exact hb
    · simp only [if_neg e, upd_ne _ _ e]
      refine ho.blk (H.bod j hj') (fun h => ?_)
      rcases h with h | h
      · exact H.bl_inj hj' hk e h
      · exact ne_kind (H.kb hj') (H.kr hk h) (by decide) rfl
  · intro j hj
    have hj' : j < q.bodies.length := by simpa using hj
    rw [qbody_set q k j _ hk]
    by_cases e : j = k
    · subst e; simp only [if_true, upd_same]; exact hr
    · simp only [if_neg e, upd_ne _ _ e]
      refine (H.row j hj').off ho (fun b hb h => ?_)
      rcases h with h | h
      · exact ne_kind (H.kr hj' hb) (H.kb hk) (by decide) h
      · exact H.rows j k b hj' hk e hb h
  · exact fun x hx => own_off (H.chg x hx) ho (fun b hb => nb (H.kg hx hb) (by decide) (by decide))
  · intro i j b hi hj hne h1 h2
    have hi' : i < q.bodies.length := by simpa using hi
    have hj' : j < q.bodies.length := by simpa using hj
    by_cases e : i = k
    · subst e
      simp only [upd_same] at h1
      rw [show ({ L with bv := upd L.bv i v } : Lay).bv j = L.bv j from upd_ne _ _ (Ne.symm hne)] at h2
      rcases hl b h1 with h | h
      · exact H.rows i j b hi' hj' hne h h2
      · exact absurd ((H.row j hj').lt b h2).2 (Nat.not_lt.2 h)
    · rw [show ({ L with bv := upd L.bv k v } : Lay).bv i = L.bv i from upd_ne _ _ e] at h1
      by_cases f : j = k
      · subst f
        simp only [upd_same] at h2
        rcases hl b h2 with h | h
        · exact H.rows i j b hi' hj' hne h1 h
        · exact absurd ((H.row i hi').lt b h1).2 (Nat.not_lt.2 h)
      · rw [show ({ L with bv := upd L.bv k v } : Lay).bv j = L.bv j from upd_ne _ _ f] at h2
        exact H.rows i j b hi' hj' hne h1 h2
end
/-- One call's step. -/
structure Step (L : Lay) (q : Q) (w : World) (L' : Lay) (q' : Q) (w' : World) : Prop where
  d : L'.d = L.d
  to : QD L' q' w'
  off : Off (foot L q) w w'
  own : ∀ b, foot L' q' b → foot L q b ∨ w.heap.size ≤ b
theorem Step.refl {L : Lay} {q : Q} {w : World} (H : QD L q w) : Step L q w L q w := ⟨rfl, H, Off.refl _ _, fun _ h => .inl h⟩
theorem Step.trans {L1 L2 L3 : Lay} {q1 q2 q3 : Q} {w1 w2 w3 : World} (h : Step L1 q1 w1 L2 q2 w2) (k : Step L2 q2 w2 L3 q3 w3) : Step L1 q1 w1 L3 q3 w3 :=
  ⟨k.d.trans h.d, k.to, h.off.trans k.off h.own, fun b hb => (k.own b hb).elim (h.own b) (fun hs => .inr (Nat.le_trans h.off.size hs))⟩
theorem Step.below {L : Lay} {q : Q} {w w' : World} (H : QD L q w) (hb : Below w.heap.size w w') : Step L q w L q w' :=
  ⟨rfl, H.below hb, (Off.of_below hb).mono (fun _ h => h.elim), fun _ h => .inl h⟩
end Go.Proofs.YtbodkjifpmencaaGreat
