/-
  Of the proofs of layer 8 (elements of XML): the parts XO XPr. No conditions.
-/
import Derived.Test.YtklcjimmbkpbdaaGreatDoorZ22
import Derived.Deep.RegionHeld3
namespace Go.Proofs.YtklcjimmbkpbdaaGreatDoor
open Go.RowKit
open Go.Lib

abbrev TNo : TypeId := 27
abbrev NV (sp nm : Bt) (av kv : Value) (tx : Bt) : Value := .agg #[sV sp, sV nm, av, kv, sV tx]
theorem five_set {B : Nat} {T : TypeId} {x y z u v a b c d e : Value} {w : World} (h : Blk B (.cells #[x, y, z, u, v] T (0, 0)) w) : Blk B (.cells #[a, b, c, d, e] T (0, 0)) (((((w.setCell ⟨B, 0, none⟩ a).setCell ⟨B, 1, none⟩ b).setCell ⟨B, 2, none⟩ c).setCell ⟨B, 3, none⟩ d).setCell ⟨B, 4, none⟩ e) := by
  have := ((((h.set 0 a).set 1 b).set 2 c).set 3 d).set 4 e
  simpa using this
abbrev ZN : Obj := .cells #[.string ⟨#[]⟩, .string ⟨#[]⟩, .slice none 0 0, .slice none 0 0, .string ⟨#[]⟩] TNo (0, 0)
/-- What the start of an element leaves. -/
def SOut (S : Nat) (l : XS) (nm : XN) (ms : List XM) (w : World) (e : Ending) (w' : World) : Prop :=
  Off (fun b => b = S) w w' ∧ KeepS S l.length w w' ∧
  match startX l nm ms with
  | none => ∃ (x0 x1 x4 : Bt) (A2 A3 : Option Addr) (n2 c2 n3 c3 : Nat) (v : Value), e = .returned (.tuple #[.agg #[sV x0, sV x1, .slice A2 n2 c2, .slice A3 n3 c3, sV x4], v, .bool false]) ∧ (∃ A n c, v = .slice A n c)
  | some (v, l') => ∃ S' cap' A c, e = .returned (.tuple #[NV v.space v.name (.slice A v.attrs.length c) (.slice none 0 0) [], ScV S' l'.length cap', .bool true]) ∧ ScR S' cap' l' w' ∧ (S' = S ∨ w.heap.size ≤ S') ∧ RC w' (fun b => w.heap.size ≤ b ∧ b ≠ S') A (cA v.attrs) ∧ v.kids = [] ∧ v.text = []
theorem SOut.bad {S : Nat} {l : XS} {nm : XN} {ms : List XM} {w w' : World} (h : startX l nm ms = none) (ho : Off (fun b => b = S) w w') (hk : KeepS S l.length w w') : SOut S l nm ms w (.returned (.tuple #[.agg #[.string ⟨#[]⟩, .string ⟨#[]⟩, .slice none 0 0, .slice none 0 0, .string ⟨#[]⟩], .slice none 0 0, .bool false])) w' := by
  refine ⟨ho, hk, ?_⟩
  rw [h]
  exact ⟨[], [], [], none, none, 0, 0, 0, 0, _, rfl, none, 0, 0, rfl⟩
theorem KeepS.new {S n : Nat} {w w' : World} {B : Nat} (h : KeepS S n w w') (hB : S ≠ B) (j : Nat) (v : Value) : KeepS S n w (w'.setCell ⟨B, j, none⟩ v) := h.trans (KeepS.off (off_set8 w' B j v) hB)
theorem mapX_snoc {α β : Type} (f : α → Option β) (a : α) : ∀ l : List α, mapX f (l ++ [a]) = match mapX f l with | none => none | some r => (f a).map fun b => r ++ [b]
  | [] => by
    show (match f a with | none => none | some b => (mapX f []).map (b :: ·)) = (f a).map fun b => [] ++ [b]
    cases f a <;> rfl
  | x :: l => by
    rw [List.cons_append, mapX, mapX_snoc f a l]
    rw [mapX]
    cases f x with
    | none => rfl
    | some y =>
      simp only
      cases mapX f l with
      | none => rfl
      | some r =>
        simp only [Option.map_some]
        cases f a <;> rfl
theorem mapX_pre {α β : Type} {f : α → Option β} {l : List α} {k : Nat} (h : mapX f (l.take k) = none) : mapX f l = none := by
  have : ∀ (a b : List α), mapX f a = none → mapX f (a ++ b) = none := by
    intro a
    induction a with
    | nil => intro b h; cases h
    | cons x a ih =>
      intro b h
      rw [List.cons_append, mapX]
      rw [mapX] at h
      cases hx : f x with
      | none => rfl
      | some y =>
        rw [hx] at h
        simp only at h ⊢
        cases ha : mapX f a with
        | none => rw [ih b ha]; rfl
        | some r => rw [ha] at h; cases h
  have h2 := this _ (l.drop k) h
  rwa [List.take_append_drop] at h2
theorem attrX_small {sc : XS} {ms : List XM} {l : List XA} (hs : ∀ d ∈ sc, d.2.length ≤ 100000) (hm : SmallM ms) (h : mapX (attrX sc) ms = some l) : SmallA l := by
  have hf : ∀ (sc : XS) (p v : Bt), (∀ d ∈ sc, d.2.length ≤ 100000) → findX sc p = some v → v.length ≤ 100000 := by
    intro sc
    induction sc with
    | nil => intro p v _ h; cases h
    | cons d sc ih =>
      intro p v hs h
      obtain ⟨q, u⟩ := d
      rw [findX] at h
      cases hf : findX sc p with
      | some x =>
        rw [hf] at h
        injection h with h
        subst h
        exact ih p x (fun d hd => hs d (List.mem_cons_of_mem _ hd)) hf
      | none =>
        rw [hf] at h
        simp only at h
        split at h
        · injection h with h
          subst h
          exact hs (q, u) List.mem_cons_self
        · cases h
  induction ms generalizing l with
  | nil =>
    injection h with h
    subst h
    intro a ha
    cases ha
  | cons m ms ih =>
    rw [mapX] at h
    cases ha : attrX sc m with
    | none => rw [ha] at h; cases h
    | some a =>
      rw [ha] at h
      simp only at h
      cases hr : mapX (attrX sc) ms with
      | none => rw [hr] at h; cases h
      | some r =>
        rw [hr] at h
        injection h with h
        subst h
        intro x hx
        rcases List.mem_cons.1 hx with rfl | hx
        · have hmm := hm m List.mem_cons_self
          unfold attrX at ha
          split at ha
          · injection ha with ha
            subst ha
            exact ⟨by simp, hmm.2⟩
          · cases hf2 : findX sc m.1.1 with
            | none => rw [hf2] at ha; cases ha
            | some sp =>
              rw [hf2] at ha
              injection ha with ha
              subst ha
              exact ⟨hf sc _ _ hs hf2, hmm.2⟩
        · exact ih (fun m' hm' => hm m' (List.mem_cons_of_mem _ hm')) hr x hx
theorem mapX_len {α β : Type} {f : α → Option β} : ∀ {l : List α} {r : List β}, mapX f l = some r → r.length = l.length
  | [], r, h => by injection h with h; subst h; rfl
  | a :: l, r, h => by
    rw [mapX] at h
    cases ha : f a with
    | none => rw [ha] at h; cases h
    | some b =>
      rw [ha] at h
      simp only at h
      cases hr : mapX f l with
      | none => rw [hr] at h; cases h
      | some r' =>
        rw [hr] at h
        injection h with h
        subst h
        rw [List.length_cons, List.length_cons, mapX_len hr]
/-- What stands there after some of the other attributes. -/
structure ESt (S S' cap' N X : Nat) (sc' l : XS) (w : World) (sp loc : Bt) (os : List XM) (oA : Option Addr) (r : List XA) (av : Value) (wr : World) : Prop where
  sc : ScR S' cap' sc' wr
  at' : S' = S ∨ w.heap.size ≤ S'
  off : Off (fun b => b = S) w wr
  keep : KeepS S l.length w wr
  others : RC wr (fun b => N < b ∧ b < X) oA (cM os)
  node : Blk N (.cells #[sV sp, sV loc, av, .slice none 0 0, .string ⟨#[]⟩] TNo (0, 0)) wr
  row : wr.ownsRow X TA3 3 av r.length (cA r)
  lts : S' < X
  ltn : N < X
  ne : S' ≠ N
  new : w.heap.size ≤ N
  old : S < w.heap.size
  big : X ≤ wr.heap.size
section
variable {S S' cap' N X : Nat} {sc' l : XS} {w wr w' : World} {sp loc : Bt} {os : List XM} {oA : Option Addr} {r : List XA} {av : Value}
theorem ESt.below (h : ESt S S' cap' N X sc' l w sp loc os oA r av wr) (hb : Below wr.heap.size wr w') : ESt S S' cap' N X sc' l w sp loc os oA r av w' :=
  ⟨h.sc.off (Off.of_below hb) (fun h => h), h.at', h.off.thenB hb, h.keep.trans (KeepS.off (Off.of_below hb) (fun h => h)), h.others.below hb, (Off.of_below hb).blk h.node (fun h => h), own_off h.row (Off.of_below hb) (fun _ _ h => h), h.lts, h.ltn, h.ne, h.new, h.old, Nat.le_trans h.big hb.size⟩
theorem ESt.push {a : XA} {av' : Value} (h : ESt S S' cap' N X sc' l w sp loc os oA r av wr) (hown : w'.ownsRow X TA3 3 av' (r.length + 1) (cA r ++ fA a)) (ho : Off (fun b => av.ownBlock = some b) wr w') : ESt S S' cap' N X sc' l w sp loc os oA (r ++ [a]) av' (w'.setCell ⟨N, 2, none⟩ av') := by
  have hge : ∀ b, av.ownBlock = some b → X ≤ b := fun b hb => (World.ownsRow.lt h.row b hb).1
  have h1 := h.lts
  have h2 := h.ltn
  have h3 := h.new
  have h4 := h.old
  have h5 := h.ne
  have hn : Blk N (.cells #[sV sp, sV loc, av, .slice none 0 0, .string ⟨#[]⟩] TNo (0, 0)) w' := ho.blk h.node (fun hb => by have := hge N hb; omega)
  have o2 := off_set8 w' N 2 av'
  refine ⟨(h.sc.off ho (fun hb => by have := hge _ hb; omega)).off o2 h5, h.at', (h.off.trans ho (fun b hb => .inr (by have := hge b hb; omega))).new h3 2 av', (h.keep.trans (KeepS.off ho (fun hb => by have := hge _ hb; omega))).new (by omega) 2 av',
    (h.others.off ho (fun b hb e => by have := hge b e; omega)).off o2 (fun b hb e => by omega), by have := hn.set 2 av'; simpa using this, ?_, h1, h2, h5, h3, h4, Nat.le_trans (Nat.le_trans h.big ho.size) o2.size⟩
  rw [List.length_append, List.length_singleton, cA_snoc]
  exact own_off hown o2 (fun b hb e => by have := (World.ownsRow.lt hown b hb).1; omega)
end
theorem ESt.set5 {S S' cap' N X : Nat} {sc' l : XS} {w wr : World} {sp loc : Bt} {os : List XM} {oA : Option Addr} {r : List XA} {av : Value} (h : ESt S S' cap' N X sc' l w sp loc os oA r av wr) :
    ESt S S' cap' N X sc' l w sp loc os oA r av (((((wr.setCell ⟨N, 0, none⟩ (sV sp)).setCell ⟨N, 1, none⟩ (sV loc)).setCell ⟨N, 2, none⟩ av).setCell ⟨N, 3, none⟩ (.slice none 0 0)).setCell ⟨N, 4, none⟩ (.string ⟨#[]⟩)) := by
  have hb := five_set (a := sV sp) (b := sV loc) (c := av) (d := .slice none 0 0) (e := .string ⟨#[]⟩) h.node
  have o := ((((off_set8 wr N 0 (sV sp)).then (off_set8 _ N 1 (sV loc))).then (off_set8 _ N 2 av)).then (off_set8 _ N 3 (.slice none 0 0))).then (off_set8 _ N 4 (.string ⟨#[]⟩))
  have h2 := h.ltn
  have h3 := h.new
  have h4 := h.old
  exact ⟨h.sc.off o h.ne, h.at', h.off.trans o (fun b hb => .inr (by omega)), h.keep.trans (KeepS.off o (by omega)), h.others.off o (fun b hb e => by omega), hb, own_off h.row o (fun b hb e => by have := (World.ownsRow.lt h.row b hb).1; omega), h.lts, h.ltn, h.ne, h.new, h.old, Nat.le_trans h.big o.size⟩
theorem ESt.rowRC {S S' cap' N X : Nat} {sc' l : XS} {w wr : World} {sp loc : Bt} {os : List XM} {oA : Option Addr} {r : List XA} {aA : Option Addr} {ac : Nat} (h : ESt S S' cap' N X sc' l w sp loc os oA r (.slice aA r.length ac) wr) : RC wr (fun b => w.heap.size ≤ b ∧ b ≠ S') aA (cA r) := by
  obtain ⟨A', c', he, _, hr⟩ := RC.of_own h.row (fun b => w.heap.size ≤ b ∧ b ≠ S') (fun b hb => by have h1 := (World.ownsRow.lt h.row b hb).1; have h2 := h.ltn; have h3 := h.new; have h4 := h.lts; omega)
  injection he with h1 _ _
  subst h1
  exact hr
theorem RC.lt {w : World} {T : Nat → Prop} {A : Option Addr} {cs : List Value} (h : RC w T A cs) : RC w (fun b => T b ∧ b < w.heap.size) A cs := fun h0 => by
  obtain ⟨b, off, e, ht, hb, hc⟩ := h h0
  exact ⟨b, off, e, ⟨ht, hb⟩, hb, hc⟩
def NodeS (N : Nat) (sp loc : Bt) (aA : Option Addr) (n ac : Nat) (W : World) : Prop := Blk N (.cells #[sV sp, sV loc, .slice aA n ac, .slice none 0 0, .string ⟨#[]⟩] TNo (0, 0)) W
theorem nodeS {N : Nat} {sp loc : Bt} {aA : Option Addr} {n ac : Nat} {W : World} (h : Blk N (.cells #[sV sp, sV loc, .slice aA n ac, .slice none 0 0, .string ⟨#[]⟩] TNo (0, 0)) W) :
    (W.cell? ⟨N, 0, none⟩ = some (sV sp) ∧ W.cell? ⟨N, 1, none⟩ = some (sV loc) ∧ W.cell? ⟨N, 2, none⟩ = some (.slice aA n ac) ∧ W.cell? ⟨N, 3, none⟩ = some (.slice none 0 0) ∧ W.cell? ⟨N, 4, none⟩ = some (.string ⟨#[]⟩)) ∧
    (W.frozen? ⟨N, 0, none⟩ = false ∧ W.frozen? ⟨N, 1, none⟩ = false ∧ W.frozen? ⟨N, 2, none⟩ = false ∧ W.frozen? ⟨N, 3, none⟩ = false ∧ W.frozen? ⟨N, 4, none⟩ = false) :=
  ⟨⟨h.cell 0, h.cell 1, h.cell 2, h.cell 3, h.cell 4⟩, h.free 0, h.free 1, h.free 2, h.free 3, h.free 4⟩
def SmallS (sc : XS) : Prop := ∀ d ∈ sc, d.2.length ≤ 100000
set_option maxRecDepth 100000 in
set_option maxHeartbeats 40000000 in
theorem selem_any {S cap : Nat} {l : XS} {nm : XN} {ms : List XM} {T : Nat → Prop} {A : Option Addr} {c : Nat} {cl : Bool} {w : World} (H : ScR S cap l w) (hl : l.length ≤ 200000) (hm : ms.length ≤ 200000) (hR : RC w T A (cM ms)) (hT : ∀ b, T b → b ≠ S) (hs : SmallM ms) (hls : SmallS l) (hmv : ∀ m ∈ ms, m.2.length ≤ 100000) :
    Calls Tryz.prog 81 #[ScV S l.length cap, .agg #[sV nm.1, sV nm.2, .slice A ms.length c, .bool cl]] w (SOut S l nm ms w) := by
  have hSlt := H.lt
  obtain ⟨W0, hW0⟩ : ∃ W, (w.alloc (.cells #[sV nm.1, sV nm.2, .slice A ms.length c, .bool cl] TTg)).alloc ZN = W := ⟨_, rfl⟩
  have hb0 : Below w.heap.size w W0 := by rw [← hW0]; exact ((Below.refl _ w).alloc (Nat.le_refl _) _).alloc (by simp) _
  have hz0 : W0.heap.size = w.heap.size + 2 := by rw [← hW0]; simp
  have hX0 : Blk w.heap.size (.cells #[sV nm.1, sV nm.2, .slice A ms.length c, .bool cl] TTg (0, 0)) W0 := by rw [← hW0]; exact (Blk.new _ w).alloc8
  have hN0 : Blk (w.heap.size + 1) ZN W0 := by
    rw [← hW0]
    have := Blk.new ZN (w.alloc (.cells #[sV nm.1, sV nm.2, .slice A ms.length c, .bool cl] TTg (0, 0)))
    simpa using this
  have HWi := Lib.hid (with_any (c := c) (H.off (Off.of_below hb0) (fun h => h)) hl hm (hR.below hb0) hT hs)
  unfold WOut at HWi
  have HE : Hid (startX l nm ms = match scopeX l ms with
  | none => none
  | some sc' => match findX sc' nm.1 with
    | none => none
    | some sp => match mapX (attrX sc') (othersX ms) with
      | none => none
      | some l => if uniqX l = true then some (.mk sp nm.2 l [] [], sc') else none) := Lib.hid rfl
  have HSL : Hid (∀ l', scopeX l ms = some l' → l' = l ++ declsX ms) := Lib.hid (fun l' h => by
    unfold scopeX at h
    split at h
    · cases h
    · injection h with h
      exact h.symm)
  have HX0 := Lib.hid hX0
  have HN0 := Lib.hid hN0
  have HB0 := Lib.hid hb0
  have x0 := hX0.cell 0
  have x1 := hX0.cell 1
  have x2 := hX0.cell 2
  have x3 := hX0.cell 3
  obtain ⟨nM, hnM⟩ : ∃ n, ms.length = n := ⟨_, rfl⟩
  rw [hnM] at hW0 x2 HX0 HWi ⊢
  have hmM : nM ≤ 200000 := by rw [← hnM]; exact hm
  have HNM := Lib.hid hnM
  have HH := Lib.hid H
  have HS := Lib.hid hs
  clear hX0 hN0 hb0 H hR hT hnM hs
  cases hsx : scopeX l ms with
  | none =>
    rw [hsx] at HWi
    have HO : Hid (startX l nm ms = none) := Lib.hid (by rw [HE.out, hsx])
    clear hsx HE HSL
    go_enter Tryz.func81, Tryz.ntmps81
    go_wp2_with fail
    refine HWi.out.mono ?_
    rintro e w1 ⟨o1, k1, v1, v2, rfl, ⟨A1, n1, c1, rfl⟩, ⟨A2, n2, c2, rfl⟩⟩
    have hz1 := o1.blk HN0.out (by omega)
    have e0 := hz1.cell 0
    have e1 := hz1.cell 1
    have e2 := hz1.cell 2
    have e3 := hz1.cell 3
    have e4 := hz1.cell 4
    have g0 := hz1.free 0
    have g1 := hz1.free 1
    have g2 := hz1.free 2
    have g3 := hz1.free 3
    have g4 := hz1.free 4
    have HZ1 := Lib.hid hz1
    have HO1 := Lib.hid ((Off.ofB (F := fun b => b = S) HB0.out).then o1)
    have HK1 := Lib.hid ((KeepS.off (Off.of_below HB0.out) (fun h => h) : KeepS S l.length w W0).trans k1)
    clear o1 k1 hz1
    go_wp2
    have hE := five_set (a := .string ⟨#[]⟩) (b := .string ⟨#[]⟩) (c := .slice none 0 0) (d := .slice none 0 0) (e := .string ⟨#[]⟩) HZ1.out
    have d0 := hE.cell 0
    have d1 := hE.cell 1
    have d2 := hE.cell 2
    have d3 := hE.cell 3
    have d4 := hE.cell 4
    refine bodyPost_ret (v := .tuple #[.agg #[.string ⟨#[]⟩, .string ⟨#[]⟩, .slice none 0 0, .slice none 0 0, .string ⟨#[]⟩], .slice none 0 0, .bool false]) ?_ rfl ?_
    · simp [results, Tryz.results81, go_sem, d0, d1, d2, d3, d4]
    have hNw : w.heap.size ≤ w.heap.size + 1 := by omega
    have hNS : S ≠ w.heap.size + 1 := by omega
    exact SOut.bad HO.out (((((HO1.out.new hNw _ _).new hNw _ _).new hNw _ _).new hNw _ _).new hNw _ _) (((((HK1.out.new hNS _ _).new hNS _ _).new hNS _ _).new hNS _ _).new hNS _ _)
  | some l' =>
    have HE1 : Hid (startX l nm ms = match findX l' nm.1 with
    | none => none
    | some sp => match mapX (attrX l') (othersX ms) with
      | none => none
      | some l => if uniqX l = true then some (.mk sp nm.2 l [] [], l') else none) := Lib.hid (by have := HE.out; rw [hsx] at this; exact this)
    have hl'e := HSL.out l' hsx
    have hl'l : l'.length ≤ 1000000 := by rw [hl'e, List.length_append]; have := decls_len ms; have := HNM.out; omega
    have hl's : SmallS l' := by
      rw [hl'e]
      intro d hd
      rcases List.mem_append.1 hd with h | h
      · exact hls d h
      · unfold declsX at h
        obtain ⟨m, hm, he⟩ := List.mem_filterMap.1 h
        cases hdm : declX m with
        | none => rw [hdm] at he; cases he
        | some p =>
          rw [hdm] at he
          injection he with he
          subst he
          exact hmv m hm
    rw [hsx] at HWi
    have HLS := Lib.hid hl's
    clear hsx HE HSL hl'e hl's
    have hSp := fun W (hW : ∃ S' cap', ScR S' cap' l' W) => hW
    obtain ⟨os, hos⟩ : ∃ os, othersX ms = os := ⟨_, rfl⟩
    have hol : os.length ≤ nM := by rw [← hos, ← HNM.out]; exact others_len ms
    have HOS : Hid (SmallM os) := Lib.hid (by rw [← hos]; intro m hm; exact HS.out m (List.mem_filter.1 hm).1)
    rw [hos] at HWi HE1
    clear hos hSp
    have hNw : w.heap.size ≤ w.heap.size + 1 := by omega
    have hNS : S ≠ w.heap.size + 1 := by omega
    cases hfx : findX l' nm.1 with
    | none =>
      have HO : Hid (startX l nm ms = none) := Lib.hid (by rw [HE1.out, hfx])
      have HSp : Hid (∀ S' cap' W, ScR S' cap' l' W → Calls Tryz.prog 103 #[ScV S' l'.length cap', .string (bs nm.1)] W (fun e w' => e = .returned (.tuple #[.string ⟨#[]⟩, .bool false]) ∧ W = w')) := Lib.hid (fun S' cap' W hW => by have := space_any hW hl'l nm.1; rw [hfx] at this; exact this)
      clear hfx HE1
      go_enter Tryz.func81, Tryz.ntmps81
      go_wp2_with fail
      refine HWi.out.mono ?_
      rintro e w1 ⟨o1, k1, S', cap', oA, oc, rfl, hsc1, hat, hoR⟩
      have hX1 := o1.blk HX0.out (by omega)
      have y0 := hX1.cell 0
      have y1 := hX1.cell 1
      have hz1 := o1.blk HN0.out (by omega)
      have e0 := hz1.cell 0
      have e1 := hz1.cell 1
      have e2 := hz1.cell 2
      have e3 := hz1.cell 3
      have e4 := hz1.cell 4
      have g0 := hz1.free 0
      have g1 := hz1.free 1
      have g2 := hz1.free 2
      have g3 := hz1.free 3
      have g4 := hz1.free 4
      have HZ1 := Lib.hid hz1
      have HX1 := Lib.hid hX1
      have HO1 := Lib.hid ((Off.ofB (F := fun b => b = S) HB0.out).then o1)
      have HK1 := Lib.hid ((KeepS.off (Off.of_below HB0.out) (fun h => h) : KeepS S l.length w W0).trans k1)
      have HSC1 := Lib.hid hsc1
      have HOR : Hid (RC w1 (fun b => w.heap.size + 2 ≤ b) oA (cM os)) := Lib.hid (by rw [← hz0]; exact hoR)
      have HAT : Hid (S' = S ∨ w.heap.size ≤ S') := Lib.hid (hat.imp (fun h => h) (fun h => by omega))
      have hS'N : S' ≠ w.heap.size + 1 := by rcases hat with h | h <;> omega
      clear o1 k1 hz1 hX1 hsc1 hat hoR
      go_wp2_with fail
      refine (HSp.out _ _ _ (HSC1.out.off (off_set8 _ _ _ _) hS'N)).mono ?_
      rintro e w2 ⟨rfl, rfl⟩
      have hz2 : Blk (w.heap.size + 1) (.cells #[.string ⟨#[]⟩, sV nm.2, .slice none 0 0, .slice none 0 0, .string ⟨#[]⟩] TNo (0, 0)) ((w1.setCell ⟨w.heap.size + 1, 1, none⟩ (.string (bs nm.2))).setCell ⟨w.heap.size + 1, 0, none⟩ (.string ⟨#[]⟩)) := by
        have := (HZ1.out.set 1 (.string (bs nm.2))).set 0 (.string ⟨#[]⟩)
        simpa using this
      have HZ2 := Lib.hid hz2
      have i0 := hz2.cell 0
      have i1 := hz2.cell 1
      have i2 := hz2.cell 2
      have i3 := hz2.cell 3
      have i4 := hz2.cell 4
      have j0 := hz2.free 0
      have j1 := hz2.free 1
      have j2 := hz2.free 2
      have j3 := hz2.free 3
      have j4 := hz2.free 4
      clear hz2
      go_wp2
      have hE := five_set (a := .string ⟨#[]⟩) (b := .string ⟨#[]⟩) (c := .slice none 0 0) (d := .slice none 0 0) (e := .string ⟨#[]⟩) HZ2.out
      have d0 := hE.cell 0
      have d1 := hE.cell 1
      have d2 := hE.cell 2
      have d3 := hE.cell 3
      have d4 := hE.cell 4
      refine bodyPost_ret (v := .tuple #[.agg #[.string ⟨#[]⟩, .string ⟨#[]⟩, .slice none 0 0, .slice none 0 0, .string ⟨#[]⟩], .slice none 0 0, .bool false]) ?_ rfl ?_
      · simp [results, Tryz.results81, go_sem, d0, d1, d2, d3, d4]
      exact SOut.bad HO.out (((((((HO1.out.new hNw _ _).new hNw _ _).new hNw _ _).new hNw _ _).new hNw _ _).new hNw _ _).new hNw _ _) (((((((HK1.out.new hNS _ _).new hNS _ _).new hNS _ _).new hNS _ _).new hNS _ _).new hNS _ _).new hNS _ _)
    | some sp =>
      have HE2 : Hid (startX l nm ms = match mapX (attrX l') os with
      | none => none
      | some l => if uniqX l = true then some (.mk sp nm.2 l [] [], l') else none) := Lib.hid (by have := HE1.out; rw [hfx] at this; exact this)
      have HSp : Hid (∀ S' cap' W, ScR S' cap' l' W → Calls Tryz.prog 103 #[ScV S' l'.length cap', .string (bs nm.1)] W (fun e w' => e = .returned (.tuple #[.string (bs sp), .bool true]) ∧ W = w')) := Lib.hid (fun S' cap' W hW => by have := space_any hW hl'l nm.1; rw [hfx] at this; exact this)
      clear hfx HE1
      go_enter Tryz.func81, Tryz.ntmps81
      go_wp2_with fail
      refine HWi.out.mono ?_
      rintro e w1 ⟨o1, k1, S', cap', oA, oc, rfl, hsc1, hat, hoR⟩
      have hX1 := o1.blk HX0.out (by omega)
      have y0 := hX1.cell 0
      have y1 := hX1.cell 1
      have hz1 := o1.blk HN0.out (by omega)
      have e0 := hz1.cell 0
      have e1 := hz1.cell 1
      have e2 := hz1.cell 2
      have e3 := hz1.cell 3
      have e4 := hz1.cell 4
      have g0 := hz1.free 0
      have g1 := hz1.free 1
      have g2 := hz1.free 2
      have g3 := hz1.free 3
      have g4 := hz1.free 4
      have HZ1 := Lib.hid hz1
      have HX1 := Lib.hid hX1
      have HO1 := Lib.hid ((Off.ofB (F := fun b => b = S) HB0.out).then o1)
      have HK1 := Lib.hid ((KeepS.off (Off.of_below HB0.out) (fun h => h) : KeepS S l.length w W0).trans k1)
      have HSC1 := Lib.hid hsc1
      have HOR : Hid (RC w1 (fun b => w.heap.size + 2 ≤ b) oA (cM os)) := Lib.hid (by rw [← hz0]; exact hoR)
      have HAT : Hid (S' = S ∨ w.heap.size ≤ S') := Lib.hid (hat.imp (fun h => h) (fun h => by omega))
      have hS'N : S' ≠ w.heap.size + 1 := by rcases hat with h | h <;> omega
      clear o1 k1 hz1 hX1 hsc1 hat hoR
      go_wp2_with fail
      refine (HSp.out _ _ _ (HSC1.out.off (off_set8 _ _ _ _) hS'N)).mono ?_
      rintro e w2 ⟨rfl, rfl⟩
      have HZ2 : Hid (Blk (w.heap.size + 1) (.cells #[sV sp, sV nm.2, .slice none 0 0, .slice none 0 0, .string ⟨#[]⟩] TNo (0, 0)) ((w1.setCell ⟨w.heap.size + 1, 1, none⟩ (.string (bs nm.2))).setCell ⟨w.heap.size + 1, 0, none⟩ (.string (bs sp)))) := Lib.hid (by
        have := (HZ1.out.set 1 (.string (bs nm.2))).set 0 (.string (bs sp))
        simpa using this)
      have hsz1 : w.heap.size + 2 ≤ w1.heap.size := by have := HO1.out.size; have := HZ1.out.lt; omega
      have HS0 : Hid (ESt S S' cap' (w.heap.size + 1) w1.heap.size l' l w sp nm.2 os oA [] (.slice none 0 0) ((w1.setCell ⟨w.heap.size + 1, 1, none⟩ (.string (bs nm.2))).setCell ⟨w.heap.size + 1, 0, none⟩ (.string (bs sp)))) := Lib.hid
        ⟨(HSC1.out.off (off_set8 _ _ _ _) hS'N).off (off_set8 _ _ _ _) hS'N, HAT.out, (HO1.out.new hNw _ _).new hNw _ _, (HK1.out.new hNS _ _).new hNS _ _,
          (((HOR.out.lt.mono (fun b hb => ⟨by omega, hb.2⟩) : RC w1 (fun b => w.heap.size + 1 < b ∧ b < w1.heap.size) oA (cM os)).off (off_set8 _ _ _ _) (fun b hb e => by omega)).off (off_set8 _ _ _ _) (fun b hb e => by omega)),
          HZ2.out, World.ownsRow_nil _ _ _ _, HSC1.out.lt, by omega, hS'N, by omega, hSlt, by simp⟩
      clear HZ2 HZ1 HSC1 HOR HX1 HO1 HK1 HAT
      obtain ⟨X, hX⟩ : ∃ X, w1.heap.size = X := ⟨_, rfl⟩
      rw [hX] at HS0
      go_wp2
      obtain ⟨wA, hwA⟩ : ∃ W, (w1.setCell ⟨w.heap.size + 1, 1, none⟩ (.string (bs nm.2))).setCell ⟨w.heap.size + 1, 0, none⟩ (.string (bs sp)) = W := ⟨_, rfl⟩
      rw [hwA] at HS0 ⊢
      clear hwA hX e0 e1 e2 e3 e4 g0 g1 g2 g3 g4 y0 y1 x0 x1 x2 x3 hW0
      obtain ⟨nO, hnO⟩ : ∃ n, os.length = n := ⟨_, rfl⟩
      rw [hnO] at hol ⊢
      have HNO := Lib.hid hnO
      clear hnO
      go_loopw [5, 41] (fun sv i wr => ∃ (k : Nat) (r : List XA) (av : Value), k ≤ nO ∧ i = .int .i64 k ∧ sv = ScV S' l'.length cap' ∧ Hid (mapX (attrX l') (os.take k) = some r) ∧ Hid (ESt S S' cap' (w.heap.size + 1) X l' l w sp nm.2 os oA r av wr)) (fun _ i _ => nO - (RowKit.intOf i).toNat)
      case atStart => exact ⟨0, [], _, Nat.zero_le _, rfl, rfl, Lib.hid rfl, HS0⟩
      case round =>
        clear HS0
        obtain ⟨k, r, av, hk, rfl, rfl, HMX, HSt⟩ := hrel
        by_cases hlt : k < nO
        · have hkl : k < os.length := by rw [HNO.out]; exact hlt
          obtain ⟨bb, off, hAe, hTb, hbl, hcl⟩ := HSt.out.others (by rw [cM_len]; omega)
          obtain ⟨c0, c1, c2⟩ := RC.m3 hcl k hkl
          have HTK := Lib.hid (List.take_succ_eq_append_getElem hkl)
          obtain ⟨m, hmk⟩ : ∃ m, os[k] = m := ⟨_, rfl⟩
          rw [hmk] at c0 c1 c2 HTK
          have HMS := Lib.hid (mapX_snoc (attrX l') m (os.take k))
          rw [← HTK.out, HMX.out] at HMS
          subst hAe
          clear hcl hmk HTK
          have HS1 := Lib.hid (HSt.out.below (below_alloc8 wr (.cells #[sV m.1.1, sV m.1.2, sV m.2] TAt (0, 0))))
          have HA := Lib.hid (scattr_any HS1.out.sc hl'l m)
          unfold AtO at HA
          cases hao : attrX l' m with
          | none =>
            have HO : Hid (startX l nm ms = none) := Lib.hid (by
              rw [HE2.out, mapX_pre (k := k + 1) (by rw [HMS.out, hao]; rfl)])
            rw [hao] at HA
            clear hao HMS
            go_wp2_with fail
            refine HA.out.mono ?_
            rintro e w2 ⟨⟨x, y, z, rfl, hxyz⟩, b2⟩
            have HS2 := Lib.hid (HS1.out.below b2)
            have hz2 := HS2.out.node
            have hzl := hz2.lt
            have i0 := hz2.cell 0
            have i1 := hz2.cell 1
            have i2 := hz2.cell 2
            have i3 := hz2.cell 3
            have i4 := hz2.cell 4
            have j0 := hz2.free 0
            have j1 := hz2.free 1
            have j2 := hz2.free 2
            have j3 := hz2.free 3
            have j4 := hz2.free 4
            clear hz2 b2 hxyz
            go_wp2
            have hE := (five_set (a := .string ⟨#[]⟩) (b := .string ⟨#[]⟩) (c := .slice none 0 0) (d := .slice none 0 0) (e := .string ⟨#[]⟩) HS2.out.node).alloc8 (o' := .cells #[.string (bs x), .string (bs y), .string (bs z)] TA3)
            have d0 := hE.cell 0
            have d1 := hE.cell 1
            have d2 := hE.cell 2
            have d3 := hE.cell 3
            have d4 := hE.cell 4
            refine bodyPost_ret (v := .tuple #[.agg #[.string ⟨#[]⟩, .string ⟨#[]⟩, .slice none 0 0, .slice none 0 0, .string ⟨#[]⟩], .slice none 0 0, .bool false]) ?_ rfl ?_
            · simp [results, Tryz.results81, go_sem, d0, d1, d2, d3, d4]
            exact SOut.bad HO.out ((((((HS2.out.off.new hNw _ _).new hNw _ _).new hNw _ _).new hNw _ _).new hNw _ _).thenB (below_alloc8 _ _)) ((((((HS2.out.keep.new hNS _ _).new hNS _ _).new hNS _ _).new hNS _ _).new hNS _ _).trans (KeepS.off (Off.of_below (below_alloc8 _ _)) (fun h => h)))
          | some a =>
            have HMX2 : Hid (mapX (attrX l') (os.take (k + 1)) = some (r ++ [a])) := Lib.hid (by rw [HMS.out, hao]; rfl)
            rw [hao] at HA
            clear hao HMS
            go_wp2_with fail
            refine HA.out.mono ?_
            rintro e w2 ⟨⟨x, y, z, rfl, hxyz⟩, b2⟩
            obtain ⟨rfl, rfl, rfl⟩ := hxyz a rfl
            have HS2 := Lib.hid (HS1.out.below b2)
            have hz2 := HS2.out.node
            have hzl := hz2.lt
            have i2 := hz2.cell 2
            have hw2 : X ≤ w2.heap.size := HS2.out.big
            obtain ⟨nR, hnR⟩ : ∃ x, r.length = x := ⟨_, rfl⟩
            have HRW : Hid (w2.ownsRow X TA3 3 av nR (cA r)) := Lib.hid (by rw [← hnR]; exact HS2.out.row)
            have hnR2 : nR ≤ 1000000 := by
              rw [← hnR, mapX_len HMX.out, List.length_take]; omega
            have HNR := Lib.hid hnR
            clear hz2 b2 hnR
            have hwa : X ≤ (w2.alloc (.cells #[.string (bs a.1), .string (bs a.2.1), .string (bs a.2.2)] TA3)).heap.size := by simp; omega
            go_wp2_with (at_builtin; refine appRH rfl _ _ 24 TA3 3 48 _ Tryz.underlying24 Tryz.info8A rfl (by decide) (by decide) rfl (w2.alloc (.cells #[.string (bs a.1), .string (bs a.2.1), .string (bs a.2.2)] TA3)) (w2.heap.size + 1) (by simp) X av nR (cA r) [.string (bs a.1), .string (bs a.2.1), .string (bs a.2.2)] rfl (str3_one _ _ _) rfl (World.ownsRow.alloc HRW.out _) rfl hnR2 hwa ?_)
            intro v' w3 hown hoff _
            obtain ⟨vA, vc, rfl, _, _⟩ := RC.of_own hown (fun _ => True) (fun _ _ => trivial)
            have hoff2 : Off (fun b => av.ownBlock = some b) w2 w3 := (Off.ofB (below_alloc8 w2 (.cells #[.string (bs a.1), .string (bs a.2.1), .string (bs a.2.2)] TA3 (0, 0)))).then hoff
            have hz3 : Blk (w.heap.size + 1) (.cells #[sV sp, sV nm.2, av, .slice none 0 0, .string ⟨#[]⟩] TNo (0, 0)) w3 := hoff2.blk HS2.out.node (fun hb => own_apartB HRW.out HS2.out.node (by decide) hb)
            have q2 := hz3.cell 2
            have f2 := hz3.free 2
            have HS3 := Lib.hid (ESt.push (a := a) HS2.out (by rw [HNR.out]; exact hown) hoff2)
            clear hown hoff hoff2 hz3
            go_wp2
            go_roundw
            case rel => exact ⟨k + 1, r ++ [a], _, by omega, by go_num, rfl, HMX2, HS3⟩
            case measure => simp [RowKit.intOf]; omega
        · obtain rfl : k = nO := by omega
          have htk : os.take k = os := List.take_of_length_le (by rw [HNO.out]; exact Nat.le_refl _)
          rw [htk] at HMX
          have HE3 : Hid (startX l nm ms = if uniqX r = true then some (.mk sp nm.2 r [] [], l') else none) := Lib.hid (by have := HE2.out; rw [HMX.out] at this; exact this)
          obtain ⟨aA, ac, hav, hac, hRr⟩ := RC.of_own HSt.out.row (fun b => w.heap.size ≤ b) (fun b hb => by have h1 := (World.ownsRow.lt HSt.out.row b hb).1; have h2 := HSt.out.ltn; show w.heap.size ≤ b; omega)
          have hra : SmallA r := attrX_small HLS.out HOS.out HMX.out
          have hrl : r.length ≤ 1000000 := by have := mapX_len HMX.out; have := HNO.out; have := HNM.out; omega
          have HU : Hid (∀ W, RC W (fun b => w.heap.size ≤ b) aA (cA r) → Calls Tryz.prog 91 #[.slice aA r.length ac] W (fun e w' => e = .returned (.bool (uniqX r)) ∧ Below W.heap.size W w')) := Lib.hid (fun W hW => unique_any hW hra hrl)
          obtain ⟨u, hu⟩ : ∃ u, uniqX r = u := ⟨_, rfl⟩
          rw [hu] at HU HE3
          subst hav
          have HRr := Lib.hid hRr
          clear htk hra hrl hu hRr
          have hn := HSt.out.node
          obtain ⟨N, hN⟩ : ∃ N, w.heap.size + 1 = N := ⟨_, rfl⟩
          rw [hN] at hn hNw hNS HSt
          have HA : Hid (∀ W, ESt S S' cap' N X l' l w sp nm.2 os oA r (.slice aA r.length ac) W → (fun W => (W.cell? ⟨N, 0, none⟩ = some (sV sp) ∧ W.cell? ⟨N, 1, none⟩ = some (sV nm.2) ∧ W.cell? ⟨N, 2, none⟩ = some (.slice aA r.length ac) ∧ W.cell? ⟨N, 3, none⟩ = some (.slice none 0 0) ∧ W.cell? ⟨N, 4, none⟩ = some (.string ⟨#[]⟩)) ∧ (W.frozen? ⟨N, 0, none⟩ = false ∧ W.frozen? ⟨N, 1, none⟩ = false ∧ W.frozen? ⟨N, 2, none⟩ = false ∧ W.frozen? ⟨N, 3, none⟩ = false ∧ W.frozen? ⟨N, 4, none⟩ = false) ∧ NodeS N sp nm.2 aA r.length ac W ∧ ESt S S' cap' N X l' l w sp nm.2 os oA r (.slice aA r.length ac) W) W) := Lib.hid (fun W hW => ⟨(nodeS hW.node).1, (nodeS hW.node).2, hW.node, hW⟩)
          go_wp2
          clear hN
          refine wp_region_held_drew (S := (fun W => (W.cell? ⟨N, 0, none⟩ = some (sV sp) ∧ W.cell? ⟨N, 1, none⟩ = some (sV nm.2) ∧ W.cell? ⟨N, 2, none⟩ = some (.slice aA r.length ac) ∧ W.cell? ⟨N, 3, none⟩ = some (.slice none 0 0) ∧ W.cell? ⟨N, 4, none⟩ = some (.string ⟨#[]⟩)) ∧ (W.frozen? ⟨N, 0, none⟩ = false ∧ W.frozen? ⟨N, 1, none⟩ = false ∧ W.frozen? ⟨N, 2, none⟩ = false ∧ W.frozen? ⟨N, 3, none⟩ = false ∧ W.frozen? ⟨N, 4, none⟩ = false) ∧ NodeS N sp nm.2 aA r.length ac W ∧ ESt S S' cap' N X l' l w sp nm.2 os oA r (.slice aA r.length ac) W)) (by kernel_rfl) (HA.out _ (HSt.out.below (below_drewN (Below.refl _ _) 1))) (fun hHeld => ?_)
          refine wpAnyH_take (i := 0) (v := .agg #[sV sp, sV nm.2, .slice aA r.length ac, .slice none 0 0, .string ⟨#[]⟩]) rfl (by kernel_rfl) (by kernel_rfl) (by kernel_rfl) (fun _ _ _ h => h) (Or.inl ⟨by rfl, by intro w hSw; (try dsimp only at hSw); go_simp⟩) hHeld ?_
          change wpAnyH _ _ _ _ _ _ _ (Act.put _ (some 61) _) _
          try simp only [Act.put, List.setIfInBounds_toArray, List.set_cons_zero, List.set_cons_succ]
          refine wpAnyH_take (i := 1) (v := ScV S' l'.length cap') rfl (by kernel_rfl) (by kernel_rfl) (by kernel_rfl) (fun _ _ _ h => h) (Or.inl ⟨by rfl, by intro w hSw; (try dsimp only at hSw); go_simp⟩) hHeld ?_
          change wpAnyH _ _ _ _ _ _ _ (Act.put _ (some 62) _) _
          try simp only [Act.put, List.setIfInBounds_toArray, List.set_cons_zero, List.set_cons_succ]
          refine wpAnyH_take (i := 2) (v := .pointer (some ⟨N, 2, none⟩)) rfl (by kernel_rfl) (by kernel_rfl) (by kernel_rfl) (fun _ _ _ h => h) (Or.inl ⟨by rfl, by intro w hSw; (try dsimp only at hSw); go_simp⟩) hHeld ?_
          change wpAnyH _ _ _ _ _ _ _ (Act.put _ (some 63) _) _
          try simp only [Act.put, List.setIfInBounds_toArray, List.set_cons_zero, List.set_cons_succ]
          refine wpAnyH_take (i := 3) (v := .slice aA r.length ac) rfl (by kernel_rfl) (by kernel_rfl) (by kernel_rfl) (fun _ _ _ h => h) (Or.inl ⟨by rfl, by intro w hSw; (try dsimp only at hSw); go_simp⟩) hHeld ?_
          change wpAnyH _ _ _ _ _ _ _ (Act.put _ (some 64) _) _
          try simp only [Act.put, List.setIfInBounds_toArray, List.set_cons_zero, List.set_cons_succ]
          refine wpAnyH_ready (rs := [4]) (by kernel_rfl) (by simp) ?_
          refine AllReadyH.cons (o := { dst := some 65, op := .call { callee := .value (.func 91), args := #[.tmp 64], argTypes := _ }, type := _, pos := _, after := _, guard := none }) rfl (fun K hK => ?_) AllReadyH.nil
          go_simp
          (with_reducible refine (HU.out _ (hHeld.2.2.2.rowRC.mono (fun _ h => h.1))).mono ?_)
          rintro e w2 ⟨rfl, b2⟩
          refine hK.out _ _ (HA.out _ (hHeld.2.2.2.below b2)) (fun hHeld => ?_)
          clear hK K
          try simp only [Act.put, List.setIfInBounds_toArray, List.set_cons_zero, List.set_cons_succ]
          refine wpAnyH_ready (rs := [5]) (by kernel_rfl) (by simp) ?_
          refine AllReadyH.cons (o := { dst := none, op := .store TNo (.tmp 4) (.tmp 61), type := _, pos := _, after := _, guard := none }) rfl (fun K hK => ?_) AllReadyH.nil
          obtain ⟨⟨q0, q1, q2, q3, q4⟩, ⟨p0, p1, p2, p3, p4⟩, hq, hE2⟩ := hHeld
          go_simp
          refine hK.out _ _ (HA.out _ hE2.set5) (fun hHeld => ?_)
          clear hK K q0 q1 q2 q3 q4 p0 p1 p2 p3 p4 hq hE2
          try simp only [Act.put, List.setIfInBounds_toArray, List.set_cons_zero, List.set_cons_succ]
          refine wpAnyH_take (i := 6) (v := ScV S' l'.length cap') rfl (by kernel_rfl) (by kernel_rfl) (by kernel_rfl) (fun _ _ _ h => h) (Or.inl ⟨by rfl, by intro w hSw; (try dsimp only at hSw); go_simp⟩) hHeld ?_
          change wpAnyH _ _ _ _ _ _ _ (Act.put _ (some 5) _) _
          try simp only [Act.put, List.setIfInBounds_toArray, List.set_cons_zero, List.set_cons_succ]
          refine wpAnyH_take (i := 7) (v := .bool u) rfl (by kernel_rfl) (by kernel_rfl) (by kernel_rfl) (fun _ _ _ h => h) (Or.inl ⟨by rfl, by intro w hSw; (try dsimp only at hSw); go_simp⟩) hHeld ?_
          change wpAnyH _ _ _ _ _ _ _ (Act.put _ (some 6) _) _
          try simp only [Act.put, List.setIfInBounds_toArray, List.set_cons_zero, List.set_cons_succ]
          refine wpAnyH_done (by kernel_rfl) ?_ _
          have HHeld := Lib.hid hHeld
          clear hHeld
          go_wp2
          obtain ⟨⟨q0, q1, q2, q3, q4⟩, _, _, hE3⟩ := HHeld.out
          refine bodyPost_ret (v := .tuple #[.agg #[sV sp, sV nm.2, .slice aA r.length ac, .slice none 0 0, .string ⟨#[]⟩], ScV S' l'.length cap', .bool u]) ?_ rfl ?_
          · simp [results, Tryz.results81, go_sem, q0, q1, q2, q3, q4]
          refine ⟨hE3.off, hE3.keep, ?_⟩
          cases u with
          | true =>
            rw [HE3.out, if_pos rfl]
            exact ⟨S', cap', aA, ac, rfl, hE3.sc, hE3.at', hE3.rowRC, rfl, rfl⟩
          | false =>
            rw [HE3.out, if_neg (by decide)]
            exact ⟨sp, nm.2, [], aA, none, r.length, ac, 0, 0, _, rfl, _, _, _, rfl⟩
end Go.Proofs.YtklcjimmbkpbdaaGreatDoor
namespace Go.Proofs.YtklcjimmbkpbdaaGreatDoor
open Go.RowKit
open Go.Lib

mutual
/-- A value of Go that reads al this node, its rows in blocks of T. -/
def XR (w : World) (T : Nat → Prop) : XV → Value → Prop
  | .mk sp nm al ks tx, v => ∃ aA ac kA kc, v = .agg #[sV sp, sV nm, .slice aA al.length ac, .slice kA ks.length kc, sV tx] ∧ RC w T aA (cA al) ∧ (0 < ks.length → ∃ b off, kA = some ⟨b, off, none⟩ ∧ T b ∧ b < w.heap.size ∧ XRl w T ks b off)
/-- Cells that read al these nodes. -/
def XRl (w : World) (T : Nat → Prop) : List XV → Nat → Nat → Prop
  | [], _, _ => True
  | v :: l, b, off => (∃ x0 x1 x2 x3 x4, w.cell? ⟨b, off, none⟩ = some x0 ∧ w.cell? ⟨b, off + 1, none⟩ = some x1 ∧ w.cell? ⟨b, off + 2, none⟩ = some x2 ∧ w.cell? ⟨b, off + 3, none⟩ = some x3 ∧ w.cell? ⟨b, off + 4, none⟩ = some x4 ∧ XR w T v (.agg #[x0, x1, x2, x3, x4])) ∧ XRl w T l b (off + 5)
end
mutual
theorem XR.off {F T : Nat → Prop} {w w' : World} (ho : Off F w w') (hF : ∀ b, T b → ¬ F b) : ∀ (v : XV) (x : Value), XR w T v x → XR w' T v x
  | .mk sp nm al ks tx, x, h => by
    rw [XR] at h ⊢
    obtain ⟨aA, ac, kA, kc, e, h1, h2⟩ := h
    refine ⟨aA, ac, kA, kc, e, h1.off ho hF, fun h0 => ?_⟩
    obtain ⟨b, off, e2, ht, hb, hl⟩ := h2 h0
    exact ⟨b, off, e2, ht, Nat.lt_of_lt_of_le hb ho.size, XRl.off ho hF ks b off (hF b ht) hl⟩
theorem XRl.off {F T : Nat → Prop} {w w' : World} (ho : Off F w w') (hF : ∀ b, T b → ¬ F b) : ∀ (l : List XV) (b off : Nat), ¬ F b → XRl w T l b off → XRl w' T l b off
  | [], b, off, _, _ => by rw [XRl]; trivial
  | v :: l, b, off, hb, h => by
    rw [XRl] at h ⊢
    obtain ⟨⟨x0, x1, x2, x3, x4, c0, c1, c2, c3, c4, hv⟩, hl⟩ := h
    exact ⟨⟨x0, x1, x2, x3, x4, ho.cell c0 hb, ho.cell c1 hb, ho.cell c2 hb, ho.cell c3 hb, ho.cell c4 hb, XR.off ho hF v _ hv⟩, XRl.off ho hF l b (off + 5) hb hl⟩
end
theorem XR.below {T : Nat → Prop} {w w' : World} {v : XV} {x : Value} (h : XR w T v x) (hb : Below w.heap.size w w') : XR w' T v x := XR.off (Off.of_below hb) (fun _ _ h => h) v x h
mutual
theorem XR.mono {T T' : Nat → Prop} {w : World} (hT : ∀ b, T b → T' b) : ∀ (v : XV) (x : Value), XR w T v x → XR w T' v x
  | .mk sp nm al ks tx, x, h => by
    rw [XR] at h ⊢
    obtain ⟨aA, ac, kA, kc, e, h1, h2⟩ := h
    refine ⟨aA, ac, kA, kc, e, h1.mono hT, fun h0 => ?_⟩
    obtain ⟨b, off, e2, ht, hb, hl⟩ := h2 h0
    exact ⟨b, off, e2, hT b ht, hb, XRl.mono hT ks b off hl⟩
theorem XRl.mono {T T' : Nat → Prop} {w : World} (hT : ∀ b, T b → T' b) : ∀ (l : List XV) (b off : Nat), XRl w T l b off → XRl w T' l b off
  | [], b, off, _ => by rw [XRl]; trivial
  | v :: l, b, off, h => by
    rw [XRl] at h ⊢
    obtain ⟨⟨x0, x1, x2, x3, x4, c0, c1, c2, c3, c4, hv⟩, hl⟩ := h
    exact ⟨⟨x0, x1, x2, x3, x4, c0, c1, c2, c3, c4, XR.mono hT v _ hv⟩, XRl.mono hT l b (off + 5) hl⟩
end
theorem XRl.at {w : World} {T : Nat → Prop} : ∀ {l : List XV} {b off : Nat}, XRl w T l b off → ∀ j (h : j < l.length), ∃ x0 x1 x2 x3 x4, w.cell? ⟨b, off + j * 5, none⟩ = some x0 ∧ w.cell? ⟨b, off + j * 5 + 1, none⟩ = some x1 ∧ w.cell? ⟨b, off + j * 5 + 2, none⟩ = some x2 ∧ w.cell? ⟨b, off + j * 5 + 3, none⟩ = some x3 ∧ w.cell? ⟨b, off + j * 5 + 4, none⟩ = some x4 ∧ XR w T l[j] (.agg #[x0, x1, x2, x3, x4])
  | [], b, off, _, j, h => absurd h (Nat.not_lt_zero _)
  | v :: l, b, off, h, 0, _ => by
    rw [XRl] at h
    simpa using h.1
  | v :: l, b, off, h, j + 1, hj => by
    rw [XRl] at h
    have := XRl.at h.2 j (by simpa using hj)
    have e : off + 5 + j * 5 = off + (j + 1) * 5 := by omega
    rw [e] at this
    exact this
def One5 (x0 x1 x2 x3 x4 : Value) : Prop := x0.oneCell' = true ∧ x1.oneCell' = true ∧ x2.oneCell' = true ∧ x3.oneCell' = true ∧ x4.oneCell' = true
/-- What a node's cells are. -/
theorem xr_one {w : World} {T : Nat → Prop} {v : XV} {x : Value} (h : XR w T v x) : ∃ aA ac kA kc, x = .agg #[sV v.space, sV v.name, .slice aA v.attrs.length ac, .slice kA v.kids.length kc, sV v.text] := by
  obtain ⟨sp, nm, al, ks, tx⟩ := v
  rw [XR] at h
  obtain ⟨aA, ac, kA, kc, e, _, _⟩ := h
  exact ⟨_, _, _, _, e⟩
/-- Cells, five by five, that read al these nodes. -/
def XRs (w : World) (T : Nat → Prop) : List XV → List Value → Prop
  | [], cs => cs = []
  | v :: l, cs => ∃ x0 x1 x2 x3 x4 r, cs = x0 :: x1 :: x2 :: x3 :: x4 :: r ∧ XR w T v (.agg #[x0, x1, x2, x3, x4]) ∧ XRs w T l r
theorem XRs.off {F T : Nat → Prop} {w w' : World} (ho : Off F w w') (hF : ∀ b, T b → ¬ F b) : ∀ (l : List XV) (cs : List Value), XRs w T l cs → XRs w' T l cs
  | [], _, h => h
  | v :: l, cs, h => by
    obtain ⟨x0, x1, x2, x3, x4, r, e, h1, h2⟩ := h
    exact ⟨x0, x1, x2, x3, x4, r, e, XR.off ho hF v _ h1, XRs.off ho hF l r h2⟩
theorem XRs.mono {T T' : Nat → Prop} {w : World} (hT : ∀ b, T b → T' b) : ∀ (l : List XV) (cs : List Value), XRs w T l cs → XRs w T' l cs
  | [], _, h => h
  | v :: l, cs, h => by
    obtain ⟨x0, x1, x2, x3, x4, r, e, h1, h2⟩ := h
    exact ⟨x0, x1, x2, x3, x4, r, e, XR.mono hT v _ h1, XRs.mono hT l r h2⟩
theorem XRs.len {w : World} {T : Nat → Prop} : ∀ (l : List XV) (cs : List Value), XRs w T l cs → cs.length = l.length * 5
  | [], _, h => by rw [show _ = [] from h]; rfl
  | v :: l, cs, h => by
    obtain ⟨x0, x1, x2, x3, x4, r, e, _, h2⟩ := h
    have := XRs.len l r h2
    rw [e]
    simp only [List.length_cons]
    omega
theorem XRs.snoc {w : World} {T : Nat → Prop} {v : XV} {x0 x1 x2 x3 x4 : Value} (hv : XR w T v (.agg #[x0, x1, x2, x3, x4])) : ∀ (l : List XV) (cs : List Value), XRs w T l cs → XRs w T (l ++ [v]) (cs ++ [x0, x1, x2, x3, x4])
  | [], cs, h => by rw [show cs = [] from h]; exact ⟨x0, x1, x2, x3, x4, [], rfl, hv, rfl⟩
  | a :: l, cs, h => by
    obtain ⟨y0, y1, y2, y3, y4, r, e, h1, h2⟩ := h
    exact ⟨y0, y1, y2, y3, y4, r ++ [x0, x1, x2, x3, x4], by rw [e]; rfl, h1, XRs.snoc hv l r h2⟩
theorem xrl_of {w : World} {T : Nat → Prop} {b : Nat} : ∀ (l : List XV) (cs : List Value) (off : Nat), XRs w T l cs → (∀ j u, cs[j]? = some u → w.cell? ⟨b, off + j, none⟩ = some u) → XRl w T l b off
  | [], _, _, _, _ => by rw [XRl]; trivial
  | v :: l, cs, off, h, hc => by
    obtain ⟨x0, x1, x2, x3, x4, r, rfl, h1, h2⟩ := h
    rw [XRl]
    refine ⟨⟨x0, x1, x2, x3, x4, hc 0 x0 rfl, hc 1 x1 rfl, hc 2 x2 rfl, hc 3 x3 rfl, hc 4 x4 rfl, h1⟩, xrl_of l r (off + 5) h2 (fun j u hj => ?_)⟩
    have := hc (j + 5) u hj
    rw [show off + 5 + j = off + (j + 5) by omega]
    exact this
/-- A slice that reads al these nodes. -/
def RN8 (w : World) (T : Nat → Prop) (A : Option Addr) (ks : List XV) : Prop := 0 < ks.length → ∃ b off, A = some ⟨b, off, none⟩ ∧ T b ∧ b < w.heap.size ∧ XRl w T ks b off
theorem RN8.of_own {w : World} {B n : Nat} {T T' : Nat → Prop} {kv : Value} {ks : List XV} {cs : List Value} (h : w.ownsRow B TNo 5 kv n cs) (hn : n = ks.length) (hs : XRs w T ks cs) (hT : ∀ b, T b → T' b) (hk : ∀ b, kv.ownBlock = some b → T' b) : ∃ A c, kv = .slice A n c ∧ RN8 w T' A ks := by
  subst hn
  have hk2 := hk
  rcases h.2 with ⟨e, hn⟩ | ⟨g, cap, cur, e, hb, hh, hc, _⟩
  · exact ⟨none, 0, by rw [e, hn], fun h0 => by omega⟩
  · subst e
    refine ⟨_, cap, rfl, fun _ => ⟨g, 0, rfl, hk g rfl, (World.ownsRow.lt h g rfl).2, xrl_of ks cs 0 (XRs.mono hT ks cs hs) (fun j u hj => ?_)⟩⟩
    have hcl := World.ownsRow.cells h (g := g) rfl j u hj
    rw [Addr.add_mid, Nat.zero_add] at hcl
    rw [Nat.zero_add]
    exact hcl
theorem XR.of {w : World} {T : Nat → Prop} {sp nm tx : Bt} {al : List XA} {ks : List XV} {aA kA : Option Addr} {ac kc : Nat} (ha : RC w T aA (cA al)) (hk : RN8 w T kA ks) : XR w T (.mk sp nm al ks tx) (.agg #[sV sp, sV nm, .slice aA al.length ac, .slice kA ks.length kc, sV tx]) := by
  rw [XR]
  exact ⟨aA, ac, kA, kc, rfl, ha, hk⟩
theorem XR.attrs {w : World} {T : Nat → Prop} {sp nm tx : Bt} {al : List XA} {ks : List XV} {x : Value} (h : XR w T (.mk sp nm al ks tx) x) : ∃ aA ac kA kc, x = .agg #[sV sp, sV nm, .slice aA al.length ac, .slice kA ks.length kc, sV tx] ∧ RC w T aA (cA al) ∧ RN8 w T kA ks := by
  rw [XR] at h
  exact h
theorem xr_text (w : World) (T : Nat → Prop) (t : Bt) : XR w T (textX t) (.agg #[.string ⟨#[]⟩, .string ⟨#[]⟩, .slice none 0 0, .slice none 0 0, sV t]) :=
  XR.of (aA := none) (kA := none) (ac := 0) (kc := 0) (RC.nil _ _ _) (fun h => absurd h (Nat.lt_irrefl _))
theorem xr_zero (w : World) (T : Nat → Prop) : XR w T zeroX (.agg #[.string ⟨#[]⟩, .string ⟨#[]⟩, .slice none 0 0, .slice none 0 0, .string ⟨#[]⟩]) := xr_text w T []
end Go.Proofs.YtklcjimmbkpbdaaGreatDoor
