/-
  An element's node while the document reads its content; add, that puts a text behind its kids. Conditions: modest lengths.
-/
import Derived.Test.YtklcjimmbkpbdaaGreatDoorZ27
import Derived.Test.YtklcjimmbkpbdaaGreatDoorZ19
namespace Go.Proofs.YtklcjimmbkpbdaaGreatDoor
open Go.RowKit
open Go.Lib
def Tn (B R N : Nat) (kv : Value) (w : World) (b : Nat) : Prop := B ≤ b ∧ b < w.heap.size ∧ b ≠ R ∧ b ≠ N ∧ kv.ownBlock ≠ some b
theorem Tn.grow {B R N : Nat} {kv : Value} {w w' : World} (h : w.heap.size ≤ w'.heap.size) {b : Nat} (hb : Tn B R N kv w b) : Tn B R N kv w' b := ⟨hb.1, Nat.lt_of_lt_of_le hb.2.1 h, hb.2.2⟩
structure NSt (B R N : Nat) (sp nm : Bt) (al : List XA) (ks : List XV) (av kv : Value) (cs : List Value) (w : World) : Prop where
 blk : Blk N (.cells #[sV sp, sV nm, av, kv, .string ⟨#[]⟩] TNo) w
 kids : w.ownsRow (N + 1) TNo 5 kv ks.length cs
 read : XRs w (Tn B R N kv w) ks cs
 att : ∃ A c, av = .slice A al.length c ∧ RC w (Tn B R N kv w) A (cA al)
 bR : B ≤ R
 rN : R < N
section
variable {B R N : Nat} {sp nm : Bt} {al : List XA} {ks : List XV} {av kv : Value} {cs : List Value} {w w' : World}
theorem NSt.off {F : Nat → Prop} (h : NSt B R N sp nm al ks av kv cs w) (ho : Off F w w') (hF : ∀ b, F b → b < B ∨ w.heap.size ≤ b) : NSt B R N sp nm al ks av kv cs w' := by
 have hB := h.bR
 have hR := h.rN
 have hl := h.blk.lt
 obtain ⟨A, c, e, hr⟩ := h.att
 refine ⟨ho.blk h.blk (fun hb => (hF N hb).elim (fun e => by omega) (fun e => by omega)), own_off h.kids ho (fun b hb e => by have := World.ownsRow.lt h.kids b hb; have := hF b e; omega), ?_, ⟨A, c, e, ?_⟩, hB, hR⟩
 ·exact XRs.mono (fun b hb => Tn.grow ho.size hb) _ _ (XRs.off ho (fun b hb e => by have := hF b e; have := hb.1; have := hb.2.1; omega) _ _ h.read)
 ·exact (hr.off ho (fun b hb e => by have := hF b e; have := hb.1; have := hb.2.1; omega)).mono (fun b hb => Tn.grow ho.size hb)
theorem NSt.below (h : NSt B R N sp nm al ks av kv cs w) (hb : Below w.heap.size w w') : NSt B R N sp nm al ks av kv cs w' := h.off (Off.of_below hb) (fun _ h => h.elim)
theorem NSt.ox {X : Nat} (h : NSt B R N sp nm al ks av kv cs w) (ho : OX X w w') (hX : X < B) : NSt B R N sp nm al ks av kv cs w' := h.off ho (fun b hb => .inl (by omega))
theorem NSt.kvf (h : NSt B R N sp nm al ks av kv cs w) : ∃ kA kc, kv = .slice kA ks.length kc := by
 obtain ⟨A, c, e, _, _⟩ := RC.of_own h.kids (fun _ => True) (fun _ _ => trivial)
 exact ⟨A, c, e⟩
theorem NSt.pushed {w0 W : World} {v : XV} {kv : Value} {g cap K : Nat} {cs' : List Value} (H : NSt B R N sp nm al ks av kv cs w0) (hK : ks.length = K) (hb : Blk N (.cells #[sV sp, sV nm, av, .slice (some ⟨g, 0, none⟩) (K + 1) cap, .string ⟨#[]⟩] TNo) W)
    (ho : W.ownsRow (N + 1) TNo 5 (.slice (some ⟨g, 0, none⟩) (K + 1) cap) (K + 1) cs') (hr : XRs W (Tn B R N kv w0) (ks ++ [v]) cs') (ha : ∃ A c, av = .slice A al.length c ∧ RC W (Tn B R N kv w0) A (cA al)) (hg : kv.ownBlock = some g ∨ w0.heap.size ≤ g) (hs : w0.heap.size ≤ W.heap.size) :
    NSt B R N sp nm al (ks ++ [v]) av (.slice (some ⟨g, 0, none⟩) (K + 1) cap) cs' W := by
 have hT : ∀ b, Tn B R N kv w0 b → Tn B R N (.slice (some ⟨g, 0, none⟩) (K + 1) cap) W b := fun b h => ⟨h.1, Nat.lt_of_lt_of_le h.2.1 hs, h.2.2.1, h.2.2.2.1, fun e => by
  have e : g = b := Option.some.inj e
  subst e
  rcases hg with hg | hg
  ·exact h.2.2.2.2 hg
  ·have := h.2.1; omega⟩
 obtain ⟨A, c, e, ha⟩ := ha
 exact ⟨hb, by rw [List.length_append, List.length_singleton, hK]; exact ho, XRs.mono hT _ _ hr, ⟨A, c, e, ha.mono hT⟩, H.bR, H.rN⟩
end
theorem XRs.unsnoc {w : World} {T : Nat → Prop} {v : XV} : ∀ (l : List XV) (cs : List Value), XRs w T (l ++ [v]) cs → ∃ cs0 x0 x1 x2 x3 x4, cs = cs0 ++ [x0, x1, x2, x3, x4] ∧ XRs w T l cs0 ∧ XR w T v (.agg #[x0, x1, x2, x3, x4])
 | [], cs, h => by
  obtain ⟨x0, x1, x2, x3, x4, r, e, h1, h2⟩ := h
  have h2 : r = [] := h2
  subst h2
  exact ⟨[], x0, x1, x2, x3, x4, e, rfl, h1⟩
 | a :: l, cs, h => by
  obtain ⟨y0, y1, y2, y3, y4, r, e, h1, h2⟩ := h
  obtain ⟨cs0, x0, x1, x2, x3, x4, e2, h3, h4⟩ := XRs.unsnoc l r h2
  exact ⟨y0 :: y1 :: y2 :: y3 :: y4 :: cs0, x0, x1, x2, x3, x4, by rw [e, e2]; rfl, ⟨y0, y1, y2, y3, y4, cs0, rfl, h1, h3⟩, h4⟩
def LastE (ks : List XV) : Prop := ∀ v, ks.getLast? = some v → v.name ≠ []
theorem LastE.nil : LastE [] := fun v h => by cases h
theorem LastE.snoc {ks : List XV} {v : XV} (h : v.name ≠ []) : LastE (ks ++ [v]) := fun u hu => by
 rw [List.getLast?_append, List.getLast?_singleton] at hu
 injection hu with hu
 rw [← hu]
 exact h
theorem allX_nil (ks : List XV) : allX ks [] = ks := by unfold allX; rw [if_pos rfl]
theorem allX_add {ks : List XV} {t x : Bt} (ht : t ≠ []) : allX ks (t ++ x) = ks ++ [textX (t ++ x)] := allX_text (fun h => ht (List.append_eq_nil_iff.1 h).1)
def AddO (B R N : Nat) (sp nm : Bt) (al : List XA) (l : List XV) (av : Value) (w : World) (e : Ending) (w' : World) : Prop := e = .returned (.tuple #[]) ∧ Off (fun b => N ≤ b) w w' ∧ ∃ kv' cs', NSt B R N sp nm al l av kv' cs' w'
set_option maxRecDepth 100000 in
set_option maxHeartbeats 1000000 in
theorem radd_more {B R N : Nat} {sp nm : Bt} {al : List XA} {ks : List XV} {t x : Bt} {av kv : Value} {cs : List Value} {w : World} (H : NSt B R N sp nm al (ks ++ [textX t]) av kv cs w) (hx : x ≠ []) (hk : ks.length ≤ 500000) (hl : t.length + x.length ≤ 1000000) :
    Calls Tryz.prog 87 #[.pointer (some ⟨N, 0, none⟩), .string (bs x)] w (AddO B R N sp nm al (ks ++ [textX (t ++ x)]) av w) := by
 obtain ⟨cs0, z0, z1, z2, z3, z4, rfl, hr0, hrt⟩ := XRs.unsnoc ks cs H.read
 obtain ⟨aA, ac, kA, kc, e⟩ := xr_one hrt
 have e' : #[z0, z1, z2, z3, z4] = #[sV [], sV [], .slice aA 0 ac, .slice kA 0 kc, sV t] := by injection e
 have e2 := congrArg Array.toList e'
 simp only [List.cons.injEq, and_true] at e2
 obtain ⟨rfl, rfl, rfl, rfl, rfl⟩ := e2
 clear e e'
 obtain ⟨m, hm⟩ : ∃ m, ks.length = m := ⟨_, rfl⟩
 have hown := H.kids
 rw [List.length_append, List.length_singleton, hm] at hown
 have hcl : cs0.length = m * 5 := by have := hown.1; rw [List.length_append] at this; simp only [List.length_cons, List.length_nil] at this; omega
 obtain ⟨g, cap, hkv⟩ : ∃ g cap, kv = .slice (some ⟨g, 0, none⟩) (m + 1) cap := by
  rcases hown.2 with ⟨_, hn⟩ | ⟨g, cap, cur, e, _⟩
  ·omega
  ·exact ⟨g, cap, e⟩
 subst hkv
 have hgN : N < g := (World.ownsRow.lt hown g rfl).1
 have c3 : w.cell? ⟨N, 3, none⟩ = some (.slice (some ⟨g, 0, none⟩) (m + 1) cap) := H.blk.cell 3
 have y1 : w.cell? ⟨g, m * 5 + 1, none⟩ = some (.string (bs [])) := by
  rw [World.ownsRow.cellAt hown (m * 5 + 1) (by omega), List.getElem?_append_right (by omega), show m * 5 + 1 - cs0.length = 1 by omega]
  rfl
 have y4 : w.cell? ⟨g, m * 5 + 4, none⟩ = some (sV t) := by
  rw [World.ownsRow.cellAt hown (m * 5 + 4) (by omega), List.getElem?_append_right (by omega), show m * 5 + 4 - cs0.length = 4 by omega]
  rfl
 have f4 : w.frozen? ⟨g, m * 5 + 4, none⟩ = false := World.ownsRow.frozenAt hown _
 have hw1 := (World.ownsRow.stored hown (m * 5 + 4) (sV (t ++ x))).1
 have ecs : (cs0 ++ [sV [], sV [], .slice aA 0 ac, .slice kA 0 kc, sV t]).set (m * 5 + 4) (sV (t ++ x)) = cs0 ++ [sV [], sV [], .slice aA 0 ac, .slice kA 0 kc, sV (t ++ x)] := by
  rw [List.set_append_right _ _ (by omega), show m * 5 + 4 - cs0.length = 4 by omega]
  rfl
 rw [ecs] at hw1
 have ho : Off (fun b => b = g) w (w.setCell ⟨g, m * 5 + 4, none⟩ (sV (t ++ x))) := off_set8 _ _ _ _
 have hTg : ∀ b, Tn B R N (.slice (some ⟨g, 0, none⟩) (m + 1) cap) w b → b ≠ g := fun b hb e => hb.2.2.2.2 (by rw [e]; rfl)
 have HE : Hid (NSt B R N sp nm al (ks ++ [textX (t ++ x)]) av (.slice (some ⟨g, 0, none⟩) (m + 1) cap) (cs0 ++ [sV [], sV [], .slice aA 0 ac, .slice kA 0 kc, sV (t ++ x)]) (w.setCell ⟨g, m * 5 + 4, none⟩ (sV (t ++ x)))) := hid (by
  obtain ⟨A, c, e, hr⟩ := H.att
  refine ⟨ho.blk H.blk (fun e => by omega), by rw [List.length_append, List.length_singleton, hm]; exact hw1, ?_, ⟨A, c, e, (hr.off ho hTg).mono (fun b hb => Tn.grow ho.size hb)⟩, H.bR, H.rN⟩
  refine XRs.mono (fun b hb => Tn.grow ho.size hb) _ _ (XRs.snoc ?_ ks cs0 (XRs.off ho hTg _ _ hr0))
  exact XR.of (al := []) (ks := []) (RC.nil _ _ _) (fun h => absurd h (Nat.lt_irrefl _)))
 have HO : Hid (Off (fun b => N ≤ b) w (w.setCell ⟨g, m * 5 + 4, none⟩ (sV (t ++ x)))) := hid (ho.mono (fun b hb => by omega))
 obtain ⟨q, hq⟩ : ∃ q, t ++ x = q := ⟨_, rfl⟩
 have ha : ∀ W, (Op.stringOp .add (bs t) (bs x)).run Tryz.prog W = .ok (.string (bs q)) W := fun W => add8 t x (by omega) q hq W
 rw [hq] at HE HO ⊢
 obtain ⟨hs0, hs1, hs2⟩ := bs_ne9 hx
 have he0 : (bs ([] : Bt)).toList = [] := by rw [bs_toList]
 have hj0 : ((m + 1 : Nat) : Int) - 1 = (m : Int) := by omega
 have hj1 : (0 : Int) < ((m + 1 : Nat) : Int) := by omega
 have hj2 : (m : Int) + 1 - 1 = (m : Int) := by omega
 have hj3 : (0 : Int) < (m : Int) + 1 := by omega
 have hj4 : (0 : Int) ≤ (m : Int) ∧ (m : Int) < (m : Int) + 1 := by omega
 rw [hm] at hk
 clear H hx hl hr0 hrt hm hown hcl hw1 ecs ho hTg hq
 go_enter Tryz.func87, Tryz.ntmps87
 go_wp2
 go_end0
 exact ⟨rfl, HO.out, _, _, HE.out⟩
set_option maxRecDepth 100000 in
set_option maxHeartbeats 2000000 in
theorem radd_push {B R N : Nat} {sp nm : Bt} {al : List XA} {ks : List XV} {x : Bt} {av kv : Value} {cs : List Value} {w : World} (H : NSt B R N sp nm al ks av kv cs w) (hx : x ≠ []) (hE : LastE ks) (hk : ks.length ≤ 500000) :
    Calls Tryz.prog 87 #[.pointer (some ⟨N, 0, none⟩), .string (bs x)] w (AddO B R N sp nm al (ks ++ [textX x]) av w) := by
 obtain ⟨kA, kc, hkv⟩ := H.kvf
 obtain ⟨K, hK⟩ : ∃ K, ks.length = K := ⟨_, rfl⟩
 rw [hK] at hkv hk
 subst hkv
 obtain ⟨v, hv⟩ : ∃ v, v = textX x := ⟨_, rfl⟩
 have HV := hid hv
 have HK := hid hK
 obtain ⟨hs0, hs1, hs2⟩ := bs_ne9 hx
 have HP : Hid (∀ j, K = j + 1 → ∃ (g : Nat) (pn : Bt), kA = some ⟨g, 0, none⟩ ∧ w.cell? ⟨g, j * 5 + 1, none⟩ = some (sV pn) ∧ pn ≠ []) := hid (fun j hj => by
  have hjl : j < ks.length := by omega
  obtain ⟨ks0, u, hku⟩ : ∃ ks0 u, ks = ks0 ++ [u] := ⟨ks.dropLast, ks.getLast (by intro h; rw [h] at hjl; simp at hjl), (List.dropLast_concat_getLast _).symm⟩
  have hun : u.name ≠ [] := hE u (by rw [hku, List.getLast?_append, List.getLast?_singleton]; rfl)
  have hrd := H.read
  rw [hku] at hrd
  obtain ⟨cs0, z0, z1, z2, z3, z4, hcs, hr0, hrt⟩ := XRs.unsnoc ks0 cs hrd
  obtain ⟨aA, ac, kA2, kc2, e⟩ := xr_one hrt
  have e' : #[z0, z1, z2, z3, z4] = #[sV u.space, sV u.name, .slice aA u.attrs.length ac, .slice kA2 u.kids.length kc2, sV u.text] := by injection e
  have e2 := congrArg Array.toList e'
  simp only [List.cons.injEq, and_true] at e2
  have hown := H.kids
  rw [hK, hcs] at hown
  have hk0 : ks0.length = j := by have := congrArg List.length hku; rw [List.length_append, List.length_singleton] at this; omega
  have hcl : cs0.length = j * 5 := by have := hown.1; rw [List.length_append] at this; simp only [List.length_cons, List.length_nil] at this; omega
  rcases hown.2 with ⟨e3, hn⟩ | ⟨g, cap, cur, e3, _⟩
  ·omega
  ·injection e3 with e4 _ _
   subst e4
   refine ⟨g, u.name, rfl, ?_, hun⟩
   rw [World.ownsRow.cellAt hown (j * 5 + 1) (by omega), List.getElem?_append_right (by omega), show j * 5 + 1 - cs0.length = 1 by omega]
   simp only [List.getElem?_cons_succ, List.getElem?_cons_zero]
   rw [e2.2.1])
 have HH := hid H
 have c3 : w.cell? ⟨N, 3, none⟩ = some (.slice kA K kc) := H.blk.cell 3
 rw [show ks ++ [textX x] = ks ++ [v] by rw [hv]]
 clear H hx hE hK hv
 cases K with
 | zero =>
  clear HP
  go_enter Tryz.func87, Tryz.ntmps87
  go_wp2
  obtain ⟨N0, hN0⟩ : ∃ N, w.heap.size = N := ⟨_, rfl⟩
  refine wp_region_held_drew (S := fun _ => True) (by kernel_rfl) trivial (fun _ => ?_)
  have bd : Below w.heap.size w w.drew := below_drewN (Below.refl _ _) 1
  have H0 := HH.out.below bd
  have s0 : w.drew.heap.size = N0 := hN0
  have X0 : XR w.drew (Tn B R N (.slice kA 0 kc) w.drew) v (.agg #[.string ⟨#[]⟩, .string ⟨#[]⟩, .slice none 0 0, .slice none 0 0, sV x]) := by rw [HV.out]; exact xr_text _ _ x
  obtain ⟨aA, ac, hav, AT0⟩ := H0.att
  have HAV := hid hav
  clear hav
  have HD := hid bd
  clear bd c3
  generalize w.drew = w0 at *
  refine wpAnyH_take (i := 0) (v := .pointer (some ⟨N, 0, none⟩)) rfl (by kernel_rfl) (by kernel_rfl) (by kernel_rfl) (fun _ _ _ h => h) (Or.inl ⟨by rfl, by intro w hSw; clear hSw; go_simp⟩) (trivial) ?_
  change wpAnyH _ _ _ _ _ _ _ (Act.put _ (some 39) _) _
  try simp only [Act.put, zA8, zB8, zC8]
  refine wpAnyH_take (i := 1) (v := .pointer (some ⟨N, 0, none⟩)) rfl (by kernel_rfl) (by kernel_rfl) (by kernel_rfl) (fun _ _ _ h => h) (Or.inl ⟨by rfl, by intro w hSw; clear hSw; go_simp⟩) (trivial) ?_
  change wpAnyH _ _ _ _ _ _ _ (Act.put _ (some 40) _) _
  try simp only [Act.put, zA8, zB8, zC8]
  refine wpAnyH_take (i := 2) (v := .pointer (some ⟨N, 3, none⟩)) rfl (by kernel_rfl) (by kernel_rfl) (by kernel_rfl) (fun _ _ _ h => h) (Or.inl ⟨by rfl, by intro w hSw; clear hSw; go_simp⟩) (trivial) ?_
  change wpAnyH _ _ _ _ _ _ _ (Act.put _ (some 41) _) _
  try simp only [Act.put, zA8, zB8, zC8]
  refine wpAnyH_take (i := 4) (v := .string (bs x)) rfl (by kernel_rfl) (by kernel_rfl) (by kernel_rfl) (fun _ _ _ h => h) (Or.inl ⟨by rfl, by intro w hSw; clear hSw; go_simp⟩) (trivial) ?_
  change wpAnyH _ _ _ _ _ _ _ (Act.put _ (some 43) _) _
  try simp only [Act.put, zA8, zB8, zC8]
  refine wpAnyH_take (i := 5) (v := .agg #[.string ⟨#[]⟩, .string ⟨#[]⟩, .slice none 0 0, .slice none 0 0, sV x]) rfl (by kernel_rfl) (by kernel_rfl) (by kernel_rfl) (fun _ _ _ h => h) (Or.inl ⟨by rfl, by intro w hSw; clear hSw; go_simp⟩) (trivial) ?_
  change wpAnyH _ _ _ _ _ _ _ (Act.put _ (some 44) _) _
  try simp only [Act.put, zA8, zB8, zC8]
  refine wpAnyH_ready (rs := [3, 7]) (by kernel_rfl) (by simp) ?_
  refine AllReadyH.cons (o := { dst := some 42, op := .load 25 (.tmp 41), type := _, pos := _, after := _, guard := none }) rfl (fun K0 hK => ?_) ?_
  ·-- the kids are read first
   have c3 : w0.cell? ⟨N, 3, none⟩ = some (.slice kA 0 kc) := H0.blk.cell 3
   go_simp
   refine hK.out _ _ (trivial) (fun _ => ?_)
   clear hK K0 c3
   try simp only [Act.put, zA8, zB8, zC8]
   refine wpAnyH_take (i := 6) (v := .int .i64 (0 : Int)) rfl (by kernel_rfl) (by kernel_rfl) (by kernel_rfl) (fun _ _ _ h => h) (Or.inl ⟨by rfl, by intro w hSw; clear hSw; go_simp⟩) (trivial) ?_
   change wpAnyH _ _ _ _ _ _ _ (Act.put _ (some 45) _) _
   try simp only [Act.put, zA8, zB8, zC8]
   refine wpAnyH_ready (rs := [7]) (by kernel_rfl) (by simp) ?_
   refine AllReadyH.cons (o := { dst := some 46, op := .buildSlice 25 1 #[(0, .const (.agg #[.string ⟨#[]⟩, .string ⟨#[]⟩, .slice none 0 0, .slice none 0 0, .string ⟨#[]⟩]))], type := _, pos := _, after := _, guard := none }) rfl (fun K0 hK => ?_) AllReadyH.nil
   go_simp
   have hb1 := below_alloc8 w0 ZN
   have H1 := H0.below hb1
   have X1 := X0.below hb1
   have Z1 : Blk N0 ZN (w0.alloc ZN) := by have := Blk.new ZN w0; rwa [s0] at this
   have s1 : (w0.alloc ZN).heap.size = N0 + 1 := by simp [s0]
   have BW1 := hid hb1
   refine hK.out _ _ (trivial) (fun _ => ?_)
   clear hK K0 hb1
   try simp only [Act.put, zA8, zB8, zC8]
   generalize w0.alloc ZN = w1 at *
   obtain ⟨i0, hi, hz0, hz1, hz2⟩ := info_parts Tryz.info8N
   refine wpAnyH_ready (rs := [8]) (by kernel_rfl) (by simp) ?_
   refine AllReadyH.cons (o := { dst := some 47, op := .call { callee := .builtin .append, args := #[.tmp 42, .tmp 46], argTypes := #[25, 25] }, type := _, pos := _, after := _, guard := none }) rfl (fun K' hK' => ?_) AllReadyH.nil
   refine step_append_lies w1 rfl (.tmp 42) (.tmp 46) 25 rfl (N + 1) TNo i0 _ 5 96 Tryz.underlying25 hi hz0 hz1 hz2 rfl (by decide) (.slice kA 0 kc) 0 cs rfl (by have := H1.kids; rw [HK.out] at this; exact this) ⟨N0, 0, none⟩ 1 1 zN5 rfl rfl (World.news_of_block Z1) (fun u hu => by simp at hu; rcases hu with rfl | rfl | rfl | rfl | rfl <;> rfl) (by decide) (by unfold maxLen; omega) (by omega) (by have := H0.blk.lt; omega) (N0 + 1) s1 ?_
   intro g cap w2 L2 gr2 at2 lt2
   have o2 := Off.of_grown gr2
   have hat : (Value.slice kA 0 kc).ownBlock = some g ∨ w0.heap.size ≤ g := at2.imp id (fun h => by omega)
   have hgN : N < g := by
    rcases hat with h | h
    ·exact (World.ownsRow.lt H0.kids g h).1
    ·have := H0.blk.lt; omega
   have hgT : ∀ b, Tn B R N (.slice kA 0 kc) w0 b → b ≠ g := fun b hb e => by
    subst e
    rcases hat with h | h
    ·exact hb.2.2.2.2 h
    ·have := hb.2.1; omega
   refine hK'.out _ _ (trivial) (fun _ => ?_)
   clear hK' K'
   try simp only [Act.put, zA8, zB8, zC8]
   have B2 := o2.blk H1.blk (fun e => by have := (World.ownsRow.lt H0.kids N e).1; omega)
   have hT1 : ∀ b, Tn B R N (.slice kA 0 kc) w1 b ∧ b < w0.heap.size → Tn B R N (.slice kA 0 kc) w0 b := fun b h => ⟨h.1.1, h.2, h.1.2.2⟩
   have R2 : XRs w2 (Tn B R N (.slice kA 0 kc) w0) ks cs := XRs.off o2 (fun b hb e => hb.2.2.2.2 e) _ _ (XRs.off (Off.of_below (BW1.out)) (fun _ _ h => h) _ _ H0.read)
   have X2 : XR w2 (Tn B R N (.slice kA 0 kc) w0) v (.agg #[.string ⟨#[]⟩, .string ⟨#[]⟩, .slice none 0 0, .slice none 0 0, sV x]) := XR.off o2 (fun b hb e => hb.2.2.2.2 e) _ _ (X0.below BW1.out)
   have A2 : RC w2 (Tn B R N (.slice kA 0 kc) w0) aA (cA al) := (AT0.below BW1.out).off o2 (fun b hb e => hb.2.2.2.2 e)
   have O2 : Off (fun b => N ≤ b) w0 w2 := ((Off.of_below BW1.out).mono (fun _ h => h.elim)).trans o2 (fun b h => .inl (by have := (World.ownsRow.lt H0.kids b h).1; omega))
   clear at2 gr2 o2 Z1 s1 hT1
   have hg1 : (0 : Int) ≤ (0 : Int) ∧ (0 : Int) < ((0 + 1 : Nat) : Int) := by omega
   have hg2 : (0 : Int) ≤ (0 : Int) ∧ (0 : Int) < (0 : Int) + 1 := by omega
   refine wpAnyH_take (i := 9) (v := .pointer (some ⟨g, 0 * 5, none⟩)) rfl (by kernel_rfl) (by kernel_rfl) (by kernel_rfl) (fun _ _ _ h => h) (Or.inl ⟨by rfl, by intro w hSw; clear hSw; go_simp⟩) (trivial) ?_
   change wpAnyH _ _ _ _ _ _ _ (Act.put _ (some 48) _) _
   try simp only [Act.put, zA8, zB8, zC8]
   refine wpAnyH_take (i := 11) (v := .pointer (some ⟨N, 0, none⟩)) rfl (by kernel_rfl) (by kernel_rfl) (by kernel_rfl) (fun _ _ _ h => h) (Or.inl ⟨by rfl, by intro w hSw; clear hSw; go_simp⟩) (trivial) ?_
   change wpAnyH _ _ _ _ _ _ _ (Act.put _ (some 49) _) _
   try simp only [Act.put, zA8, zB8, zC8]
   refine wpAnyH_take (i := 12) (v := .pointer (some ⟨N, 3, none⟩)) rfl (by kernel_rfl) (by kernel_rfl) (by kernel_rfl) (fun _ _ _ h => h) (Or.inl ⟨by rfl, by intro w hSw; clear hSw; go_simp⟩) (trivial) ?_
   change wpAnyH _ _ _ _ _ _ _ (Act.put _ (some 50) _) _
   try simp only [Act.put, zA8, zB8, zC8]
   refine wpAnyH_ready (rs := [10, 13]) (by kernel_rfl) (by simp) ?_
   refine AllReadyH.cons (o := { dst := none, op := .store TNo (.tmp 48) (.tmp 44), type := _, pos := _, after := _, guard := none }) rfl (fun K0 hK => ?_) ?_
   ·-- the element first
    refine step_st5 rfl 48 44 rfl rfl w2 (b := g) (k := 0 * 5) (x0 := .string ⟨#[]⟩) (x1 := .string ⟨#[]⟩) (x2 := .slice none 0 0) (x3 := .slice none 0 0) (x4 := sV x) rfl rfl (own5_there L2) (all5 rfl rfl rfl rfl rfl) ?_
    have o3 := off_sets8 g [.string ⟨#[]⟩, .string ⟨#[]⟩, .slice none 0 0, .slice none 0 0, sV x] (0 * 5) w2
    have L3 := own5_set (x0 := .string ⟨#[]⟩) (x1 := .string ⟨#[]⟩) (x2 := .slice none 0 0) (x3 := .slice none 0 0) (x4 := sV x) (by have := H0.kids.1; rw [HK.out] at this; exact this) L2
    have B3 := o3.blk B2 (fun e => by omega)
    have R3 := XRs.off o3 (fun b hb e => hgT b hb e) _ _ R2
    have X3 := XR.off o3 (fun b hb e => hgT b hb e) _ _ X2
    have A3 := A2.off o3 (fun b hb e => hgT b hb e)
    have O3 := O2.trans o3 (fun b h => .inl (by omega))
    refine hK.out _ _ (trivial) (fun _ => ?_)
    clear hK
    generalize w2.setCells g (0 * 5) [.string ⟨#[]⟩, .string ⟨#[]⟩, .slice none 0 0, .slice none 0 0, sV x] = w3 at *
    refine wpAnyH_ready (rs := [13]) (by kernel_rfl) (by simp) ?_
    refine AllReadyH.cons (o := { dst := none, op := .store 25 (.tmp 50) (.tmp 47), type := _, pos := _, after := _, guard := none }) rfl (fun K0 hK => ?_) AllReadyH.nil
    refine step_stS rfl 50 47 rfl rfl w3 (b := N) (k := 3) (v := .slice (some ⟨g, 0, none⟩) (0 + 1) cap) rfl rfl (B3.cell 3) (B3.free 3) ⟨_, _, _, rfl⟩ ?_
    have o4 := off_set8 w3 N 3 (.slice (some ⟨g, 0, none⟩) (0 + 1) cap)
    have L4 := own_off L3 o4 (fun b hb e => by have : g = b := Option.some.inj hb; omega)
    have B4 : Blk N (.cells #[sV sp, sV nm, av, .slice (some ⟨g, 0, none⟩) (0 + 1) cap, .string ⟨#[]⟩] TNo) (w3.setCell ⟨N, 3, none⟩ (.slice (some ⟨g, 0, none⟩) (0 + 1) cap)) := by have := B3.set 3 (.slice (some ⟨g, 0, none⟩) (0 + 1) cap); simpa using this
    have R4 := XRs.off o4 (fun b hb e => hb.2.2.2.1 e) _ _ R3
    have X4 := XR.off o4 (fun b hb e => hb.2.2.2.1 e) _ _ X3
    have A4 := A3.off o4 (fun b hb e => hb.2.2.2.1 e)
    have O4 := O3.trans o4 (fun b h => .inl (by omega))
    refine hK.out _ _ (trivial) (fun _ => ?_)
    clear hK
    generalize w3.setCell ⟨N, 3, none⟩ (.slice (some ⟨g, 0, none⟩) (0 + 1) cap) = w4 at *
    refine wpAnyH_done (by kernel_rfl) ?_ _
    have HN4 : Hid (NSt B R N sp nm al (ks ++ [v]) av (.slice (some ⟨g, 0, none⟩) (0 + 1) cap) (cs ++ [.string ⟨#[]⟩, .string ⟨#[]⟩, .slice none 0 0, .slice none 0 0, sV x]) w4) := hid (H0.pushed HK.out B4 L4 (XRs.snoc X4 ks cs R4) ⟨aA, ac, HAV.out, A4⟩ hat O4.size)
    have HO4 := hid O4
    clear L2 B2 R2 X2 A2 O2 L3 B3 R3 X3 A3 O3 L4 B4 R4 X4 A4 O4 o3 o4
    go_wp2
    go_end0
    exact ⟨rfl, (Off.of_below HD.out |>.mono (fun _ h => h.elim)).trans HO4.out (fun b h => .inl h), _, _, HN4.out⟩
   refine AllReadyH.cons (o := { dst := none, op := .store 25 (.tmp 50) (.tmp 47), type := _, pos := _, after := _, guard := none }) rfl (fun K0 hK => ?_) AllReadyH.nil
   refine step_stS rfl 50 47 rfl rfl w2 (b := N) (k := 3) (v := .slice (some ⟨g, 0, none⟩) (0 + 1) cap) rfl rfl (B2.cell 3) (B2.free 3) ⟨_, _, _, rfl⟩ ?_
   have o3 := off_set8 w2 N 3 (.slice (some ⟨g, 0, none⟩) (0 + 1) cap)
   have L3 := own_off L2 o3 (fun b hb e => by have : g = b := Option.some.inj hb; omega)
   have B3 : Blk N (.cells #[sV sp, sV nm, av, .slice (some ⟨g, 0, none⟩) (0 + 1) cap, .string ⟨#[]⟩] TNo) (w2.setCell ⟨N, 3, none⟩ (.slice (some ⟨g, 0, none⟩) (0 + 1) cap)) := by have := B2.set 3 (.slice (some ⟨g, 0, none⟩) (0 + 1) cap); simpa using this
   have R3 := XRs.off o3 (fun b hb e => hb.2.2.2.1 e) _ _ R2
   have X3 := XR.off o3 (fun b hb e => hb.2.2.2.1 e) _ _ X2
   have A3 := A2.off o3 (fun b hb e => hb.2.2.2.1 e)
   have O3 := O2.trans o3 (fun b h => .inl (by omega))
   refine hK.out _ _ (trivial) (fun _ => ?_)
   clear hK
   generalize w2.setCell ⟨N, 3, none⟩ (.slice (some ⟨g, 0, none⟩) (0 + 1) cap) = w3 at *
   refine wpAnyH_ready (rs := [10]) (by kernel_rfl) (by simp) ?_
   refine AllReadyH.cons (o := { dst := none, op := .store TNo (.tmp 48) (.tmp 44), type := _, pos := _, after := _, guard := none }) rfl (fun K0 hK => ?_) AllReadyH.nil
   refine step_st5 rfl 48 44 rfl rfl w3 (b := g) (k := 0 * 5) (x0 := .string ⟨#[]⟩) (x1 := .string ⟨#[]⟩) (x2 := .slice none 0 0) (x3 := .slice none 0 0) (x4 := sV x) rfl rfl (own5_there L3) (all5 rfl rfl rfl rfl rfl) ?_
   have o4 := off_sets8 g [.string ⟨#[]⟩, .string ⟨#[]⟩, .slice none 0 0, .slice none 0 0, sV x] (0 * 5) w3
   have L4 := own5_set (x0 := .string ⟨#[]⟩) (x1 := .string ⟨#[]⟩) (x2 := .slice none 0 0) (x3 := .slice none 0 0) (x4 := sV x) (by have := H0.kids.1; rw [HK.out] at this; exact this) L3
   have B4 := o4.blk B3 (fun e => by omega)
   have R4 := XRs.off o4 (fun b hb e => hgT b hb e) _ _ R3
   have X4 := XR.off o4 (fun b hb e => hgT b hb e) _ _ X3
   have A4 := A3.off o4 (fun b hb e => hgT b hb e)
   have O4 := O3.trans o4 (fun b h => .inl (by omega))
   refine hK.out _ _ (trivial) (fun _ => ?_)
   clear hK
   generalize w3.setCells g (0 * 5) [.string ⟨#[]⟩, .string ⟨#[]⟩, .slice none 0 0, .slice none 0 0, sV x] = w4 at *
   refine wpAnyH_done (by kernel_rfl) ?_ _
   have HN4 : Hid (NSt B R N sp nm al (ks ++ [v]) av (.slice (some ⟨g, 0, none⟩) (0 + 1) cap) (cs ++ [.string ⟨#[]⟩, .string ⟨#[]⟩, .slice none 0 0, .slice none 0 0, sV x]) w4) := hid (H0.pushed HK.out B4 L4 (XRs.snoc X4 ks cs R4) ⟨aA, ac, HAV.out, A4⟩ hat O4.size)
   have HO4 := hid O4
   clear L2 B2 R2 X2 A2 O2 L3 B3 R3 X3 A3 O3 L4 B4 R4 X4 A4 O4 o3 o4
   go_wp2
   go_end0
   exact ⟨rfl, (Off.of_below HD.out |>.mono (fun _ h => h.elim)).trans HO4.out (fun b h => .inl h), _, _, HN4.out⟩
  refine AllReadyH.cons (o := { dst := some 46, op := .buildSlice 25 1 #[(0, .const (.agg #[.string ⟨#[]⟩, .string ⟨#[]⟩, .slice none 0 0, .slice none 0 0, .string ⟨#[]⟩]))], type := _, pos := _, after := _, guard := none }) rfl (fun K0 hK => ?_) AllReadyH.nil
  go_simp
  have hb1 := below_alloc8 w0 ZN
  have H1 := H0.below hb1
  have X1 := X0.below hb1
  have Z1 : Blk N0 ZN (w0.alloc ZN) := by have := Blk.new ZN w0; rwa [s0] at this
  have s1 : (w0.alloc ZN).heap.size = N0 + 1 := by simp [s0]
  have BW1 := hid hb1
  refine hK.out _ _ (trivial) (fun _ => ?_)
  clear hK K0 hb1
  try simp only [Act.put, zA8, zB8, zC8]
  generalize w0.alloc ZN = w1 at *
  refine wpAnyH_ready (rs := [3]) (by kernel_rfl) (by simp) ?_
  refine AllReadyH.cons (o := { dst := some 42, op := .load 25 (.tmp 41), type := _, pos := _, after := _, guard := none }) rfl (fun K0 hK => ?_) AllReadyH.nil
  have c3 : w1.cell? ⟨N, 3, none⟩ = some (.slice kA 0 kc) := H1.blk.cell 3
  go_simp
  refine hK.out _ _ (trivial) (fun _ => ?_)
  clear hK K0 c3
  try simp only [Act.put, zA8, zB8, zC8]
  refine wpAnyH_take (i := 6) (v := .int .i64 (0 : Int)) rfl (by kernel_rfl) (by kernel_rfl) (by kernel_rfl) (fun _ _ _ h => h) (Or.inl ⟨by rfl, by intro w hSw; clear hSw; go_simp⟩) (trivial) ?_
  change wpAnyH _ _ _ _ _ _ _ (Act.put _ (some 45) _) _
  try simp only [Act.put, zA8, zB8, zC8]
  obtain ⟨i0, hi, hz0, hz1, hz2⟩ := info_parts Tryz.info8N
  refine wpAnyH_ready (rs := [8]) (by kernel_rfl) (by simp) ?_
  refine AllReadyH.cons (o := { dst := some 47, op := .call { callee := .builtin .append, args := #[.tmp 42, .tmp 46], argTypes := #[25, 25] }, type := _, pos := _, after := _, guard := none }) rfl (fun K' hK' => ?_) AllReadyH.nil
  refine step_append_lies w1 rfl (.tmp 42) (.tmp 46) 25 rfl (N + 1) TNo i0 _ 5 96 Tryz.underlying25 hi hz0 hz1 hz2 rfl (by decide) (.slice kA 0 kc) 0 cs rfl (by have := H1.kids; rw [HK.out] at this; exact this) ⟨N0, 0, none⟩ 1 1 zN5 rfl rfl (World.news_of_block Z1) (fun u hu => by simp at hu; rcases hu with rfl | rfl | rfl | rfl | rfl <;> rfl) (by decide) (by unfold maxLen; omega) (by omega) (by have := H0.blk.lt; omega) (N0 + 1) s1 ?_
  intro g cap w2 L2 gr2 at2 lt2
  have o2 := Off.of_grown gr2
  have hat : (Value.slice kA 0 kc).ownBlock = some g ∨ w0.heap.size ≤ g := at2.imp id (fun h => by omega)
  have hgN : N < g := by
   rcases hat with h | h
   ·exact (World.ownsRow.lt H0.kids g h).1
   ·have := H0.blk.lt; omega
  have hgT : ∀ b, Tn B R N (.slice kA 0 kc) w0 b → b ≠ g := fun b hb e => by
   subst e
   rcases hat with h | h
   ·exact hb.2.2.2.2 h
   ·have := hb.2.1; omega
  refine hK'.out _ _ (trivial) (fun _ => ?_)
  clear hK' K'
  try simp only [Act.put, zA8, zB8, zC8]
  have B2 := o2.blk H1.blk (fun e => by have := (World.ownsRow.lt H0.kids N e).1; omega)
  have hT1 : ∀ b, Tn B R N (.slice kA 0 kc) w1 b ∧ b < w0.heap.size → Tn B R N (.slice kA 0 kc) w0 b := fun b h => ⟨h.1.1, h.2, h.1.2.2⟩
  have R2 : XRs w2 (Tn B R N (.slice kA 0 kc) w0) ks cs := XRs.off o2 (fun b hb e => hb.2.2.2.2 e) _ _ (XRs.off (Off.of_below (BW1.out)) (fun _ _ h => h) _ _ H0.read)
  have X2 : XR w2 (Tn B R N (.slice kA 0 kc) w0) v (.agg #[.string ⟨#[]⟩, .string ⟨#[]⟩, .slice none 0 0, .slice none 0 0, sV x]) := XR.off o2 (fun b hb e => hb.2.2.2.2 e) _ _ (X0.below BW1.out)
  have A2 : RC w2 (Tn B R N (.slice kA 0 kc) w0) aA (cA al) := (AT0.below BW1.out).off o2 (fun b hb e => hb.2.2.2.2 e)
  have O2 : Off (fun b => N ≤ b) w0 w2 := ((Off.of_below BW1.out).mono (fun _ h => h.elim)).trans o2 (fun b h => .inl (by have := (World.ownsRow.lt H0.kids b h).1; omega))
  clear at2 gr2 o2 Z1 s1 hT1
  have hg1 : (0 : Int) ≤ (0 : Int) ∧ (0 : Int) < ((0 + 1 : Nat) : Int) := by omega
  have hg2 : (0 : Int) ≤ (0 : Int) ∧ (0 : Int) < (0 : Int) + 1 := by omega
  refine wpAnyH_take (i := 9) (v := .pointer (some ⟨g, 0 * 5, none⟩)) rfl (by kernel_rfl) (by kernel_rfl) (by kernel_rfl) (fun _ _ _ h => h) (Or.inl ⟨by rfl, by intro w hSw; clear hSw; go_simp⟩) (trivial) ?_
  change wpAnyH _ _ _ _ _ _ _ (Act.put _ (some 48) _) _
  try simp only [Act.put, zA8, zB8, zC8]
  refine wpAnyH_take (i := 11) (v := .pointer (some ⟨N, 0, none⟩)) rfl (by kernel_rfl) (by kernel_rfl) (by kernel_rfl) (fun _ _ _ h => h) (Or.inl ⟨by rfl, by intro w hSw; clear hSw; go_simp⟩) (trivial) ?_
  change wpAnyH _ _ _ _ _ _ _ (Act.put _ (some 49) _) _
  try simp only [Act.put, zA8, zB8, zC8]
  refine wpAnyH_take (i := 12) (v := .pointer (some ⟨N, 3, none⟩)) rfl (by kernel_rfl) (by kernel_rfl) (by kernel_rfl) (fun _ _ _ h => h) (Or.inl ⟨by rfl, by intro w hSw; clear hSw; go_simp⟩) (trivial) ?_
  change wpAnyH _ _ _ _ _ _ _ (Act.put _ (some 50) _) _
  try simp only [Act.put, zA8, zB8, zC8]
  refine wpAnyH_ready (rs := [10, 13]) (by kernel_rfl) (by simp) ?_
  refine AllReadyH.cons (o := { dst := none, op := .store TNo (.tmp 48) (.tmp 44), type := _, pos := _, after := _, guard := none }) rfl (fun K0 hK => ?_) ?_
  ·-- the element first
   refine step_st5 rfl 48 44 rfl rfl w2 (b := g) (k := 0 * 5) (x0 := .string ⟨#[]⟩) (x1 := .string ⟨#[]⟩) (x2 := .slice none 0 0) (x3 := .slice none 0 0) (x4 := sV x) rfl rfl (own5_there L2) (all5 rfl rfl rfl rfl rfl) ?_
   have o3 := off_sets8 g [.string ⟨#[]⟩, .string ⟨#[]⟩, .slice none 0 0, .slice none 0 0, sV x] (0 * 5) w2
   have L3 := own5_set (x0 := .string ⟨#[]⟩) (x1 := .string ⟨#[]⟩) (x2 := .slice none 0 0) (x3 := .slice none 0 0) (x4 := sV x) (by have := H0.kids.1; rw [HK.out] at this; exact this) L2
   have B3 := o3.blk B2 (fun e => by omega)
   have R3 := XRs.off o3 (fun b hb e => hgT b hb e) _ _ R2
   have X3 := XR.off o3 (fun b hb e => hgT b hb e) _ _ X2
   have A3 := A2.off o3 (fun b hb e => hgT b hb e)
   have O3 := O2.trans o3 (fun b h => .inl (by omega))
   refine hK.out _ _ (trivial) (fun _ => ?_)
   clear hK
   generalize w2.setCells g (0 * 5) [.string ⟨#[]⟩, .string ⟨#[]⟩, .slice none 0 0, .slice none 0 0, sV x] = w3 at *
   refine wpAnyH_ready (rs := [13]) (by kernel_rfl) (by simp) ?_
   refine AllReadyH.cons (o := { dst := none, op := .store 25 (.tmp 50) (.tmp 47), type := _, pos := _, after := _, guard := none }) rfl (fun K0 hK => ?_) AllReadyH.nil
   refine step_stS rfl 50 47 rfl rfl w3 (b := N) (k := 3) (v := .slice (some ⟨g, 0, none⟩) (0 + 1) cap) rfl rfl (B3.cell 3) (B3.free 3) ⟨_, _, _, rfl⟩ ?_
   have o4 := off_set8 w3 N 3 (.slice (some ⟨g, 0, none⟩) (0 + 1) cap)
   have L4 := own_off L3 o4 (fun b hb e => by have : g = b := Option.some.inj hb; omega)
   have B4 : Blk N (.cells #[sV sp, sV nm, av, .slice (some ⟨g, 0, none⟩) (0 + 1) cap, .string ⟨#[]⟩] TNo) (w3.setCell ⟨N, 3, none⟩ (.slice (some ⟨g, 0, none⟩) (0 + 1) cap)) := by have := B3.set 3 (.slice (some ⟨g, 0, none⟩) (0 + 1) cap); simpa using this
   have R4 := XRs.off o4 (fun b hb e => hb.2.2.2.1 e) _ _ R3
   have X4 := XR.off o4 (fun b hb e => hb.2.2.2.1 e) _ _ X3
   have A4 := A3.off o4 (fun b hb e => hb.2.2.2.1 e)
   have O4 := O3.trans o4 (fun b h => .inl (by omega))
   refine hK.out _ _ (trivial) (fun _ => ?_)
   clear hK
   generalize w3.setCell ⟨N, 3, none⟩ (.slice (some ⟨g, 0, none⟩) (0 + 1) cap) = w4 at *
   refine wpAnyH_done (by kernel_rfl) ?_ _
   have HN4 : Hid (NSt B R N sp nm al (ks ++ [v]) av (.slice (some ⟨g, 0, none⟩) (0 + 1) cap) (cs ++ [.string ⟨#[]⟩, .string ⟨#[]⟩, .slice none 0 0, .slice none 0 0, sV x]) w4) := hid (H0.pushed HK.out B4 L4 (XRs.snoc X4 ks cs R4) ⟨aA, ac, HAV.out, A4⟩ hat O4.size)
   have HO4 := hid O4
   clear L2 B2 R2 X2 A2 O2 L3 B3 R3 X3 A3 O3 L4 B4 R4 X4 A4 O4 o3 o4
   go_wp2
   go_end0
   exact ⟨rfl, (Off.of_below HD.out |>.mono (fun _ h => h.elim)).trans HO4.out (fun b h => .inl h), _, _, HN4.out⟩
  refine AllReadyH.cons (o := { dst := none, op := .store 25 (.tmp 50) (.tmp 47), type := _, pos := _, after := _, guard := none }) rfl (fun K0 hK => ?_) AllReadyH.nil
  refine step_stS rfl 50 47 rfl rfl w2 (b := N) (k := 3) (v := .slice (some ⟨g, 0, none⟩) (0 + 1) cap) rfl rfl (B2.cell 3) (B2.free 3) ⟨_, _, _, rfl⟩ ?_
  have o3 := off_set8 w2 N 3 (.slice (some ⟨g, 0, none⟩) (0 + 1) cap)
  have L3 := own_off L2 o3 (fun b hb e => by have : g = b := Option.some.inj hb; omega)
  have B3 : Blk N (.cells #[sV sp, sV nm, av, .slice (some ⟨g, 0, none⟩) (0 + 1) cap, .string ⟨#[]⟩] TNo) (w2.setCell ⟨N, 3, none⟩ (.slice (some ⟨g, 0, none⟩) (0 + 1) cap)) := by have := B2.set 3 (.slice (some ⟨g, 0, none⟩) (0 + 1) cap); simpa using this
  have R3 := XRs.off o3 (fun b hb e => hb.2.2.2.1 e) _ _ R2
  have X3 := XR.off o3 (fun b hb e => hb.2.2.2.1 e) _ _ X2
  have A3 := A2.off o3 (fun b hb e => hb.2.2.2.1 e)
  have O3 := O2.trans o3 (fun b h => .inl (by omega))
  refine hK.out _ _ (trivial) (fun _ => ?_)
  clear hK
  generalize w2.setCell ⟨N, 3, none⟩ (.slice (some ⟨g, 0, none⟩) (0 + 1) cap) = w3 at *
  refine wpAnyH_ready (rs := [10]) (by kernel_rfl) (by simp) ?_
  refine AllReadyH.cons (o := { dst := none, op := .store TNo (.tmp 48) (.tmp 44), type := _, pos := _, after := _, guard := none }) rfl (fun K0 hK => ?_) AllReadyH.nil
  refine step_st5 rfl 48 44 rfl rfl w3 (b := g) (k := 0 * 5) (x0 := .string ⟨#[]⟩) (x1 := .string ⟨#[]⟩) (x2 := .slice none 0 0) (x3 := .slice none 0 0) (x4 := sV x) rfl rfl (own5_there L3) (all5 rfl rfl rfl rfl rfl) ?_
  have o4 := off_sets8 g [.string ⟨#[]⟩, .string ⟨#[]⟩, .slice none 0 0, .slice none 0 0, sV x] (0 * 5) w3
  have L4 := own5_set (x0 := .string ⟨#[]⟩) (x1 := .string ⟨#[]⟩) (x2 := .slice none 0 0) (x3 := .slice none 0 0) (x4 := sV x) (by have := H0.kids.1; rw [HK.out] at this; exact this) L3
  have B4 := o4.blk B3 (fun e => by omega)
  have R4 := XRs.off o4 (fun b hb e => hgT b hb e) _ _ R3
  have X4 := XR.off o4 (fun b hb e => hgT b hb e) _ _ X3
  have A4 := A3.off o4 (fun b hb e => hgT b hb e)
  have O4 := O3.trans o4 (fun b h => .inl (by omega))
  refine hK.out _ _ (trivial) (fun _ => ?_)
  clear hK
  generalize w3.setCells g (0 * 5) [.string ⟨#[]⟩, .string ⟨#[]⟩, .slice none 0 0, .slice none 0 0, sV x] = w4 at *
  refine wpAnyH_done (by kernel_rfl) ?_ _
  have HN4 : Hid (NSt B R N sp nm al (ks ++ [v]) av (.slice (some ⟨g, 0, none⟩) (0 + 1) cap) (cs ++ [.string ⟨#[]⟩, .string ⟨#[]⟩, .slice none 0 0, .slice none 0 0, sV x]) w4) := hid (H0.pushed HK.out B4 L4 (XRs.snoc X4 ks cs R4) ⟨aA, ac, HAV.out, A4⟩ hat O4.size)
  have HO4 := hid O4
  clear L2 B2 R2 X2 A2 O2 L3 B3 R3 X3 A3 O3 L4 B4 R4 X4 A4 O4 o3 o4
  go_wp2
  go_end0
  exact ⟨rfl, (Off.of_below HD.out |>.mono (fun _ h => h.elim)).trans HO4.out (fun b h => .inl h), _, _, HN4.out⟩
 | succ j =>
  obtain ⟨g9, pn, rfl, y1, hpn⟩ := HP.out j rfl
  obtain ⟨hp0, hp1, hp2⟩ := bs_ne9 hpn
  have hj0 : ((j + 1 : Nat) : Int) - 1 = (j : Int) := by omega
  have hj1 : (0 : Int) < ((j + 1 : Nat) : Int) := by omega
  have hj2 : (j : Int) + 1 - 1 = (j : Int) := by omega
  have hj3 : (0 : Int) < (j : Int) + 1 := by omega
  have hj4 : (0 : Int) ≤ (j : Int) ∧ (j : Int) < (j : Int) + 1 := by omega
  clear HP hpn
  go_enter Tryz.func87, Tryz.ntmps87
  go_wp2
  clear hp0 hp1 hp2 y1 hj0 hj1 hj2 hj3 hj4
  obtain ⟨N0, hN0⟩ : ∃ N, w.heap.size = N := ⟨_, rfl⟩
  refine wp_region_held_drew (S := fun _ => True) (by kernel_rfl) trivial (fun _ => ?_)
  have bd : Below w.heap.size w w.drew := below_drewN (Below.refl _ _) 1
  have H0 := HH.out.below bd
  have s0 : w.drew.heap.size = N0 := hN0
  have X0 : XR w.drew (Tn B R N (.slice (some ⟨g9, 0, none⟩) (j + 1) kc) w.drew) v (.agg #[.string ⟨#[]⟩, .string ⟨#[]⟩, .slice none 0 0, .slice none 0 0, sV x]) := by rw [HV.out]; exact xr_text _ _ x
  obtain ⟨aA, ac, hav, AT0⟩ := H0.att
  have HAV := hid hav
  clear hav
  have HD := hid bd
  clear bd c3
  generalize w.drew = w0 at *
  refine wpAnyH_take (i := 0) (v := .pointer (some ⟨N, 0, none⟩)) rfl (by kernel_rfl) (by kernel_rfl) (by kernel_rfl) (fun _ _ _ h => h) (Or.inl ⟨by rfl, by intro w hSw; clear hSw; go_simp⟩) (trivial) ?_
  change wpAnyH _ _ _ _ _ _ _ (Act.put _ (some 39) _) _
  try simp only [Act.put, zA8, zB8, zC8]
  refine wpAnyH_take (i := 1) (v := .pointer (some ⟨N, 0, none⟩)) rfl (by kernel_rfl) (by kernel_rfl) (by kernel_rfl) (fun _ _ _ h => h) (Or.inl ⟨by rfl, by intro w hSw; clear hSw; go_simp⟩) (trivial) ?_
  change wpAnyH _ _ _ _ _ _ _ (Act.put _ (some 40) _) _
  try simp only [Act.put, zA8, zB8, zC8]
  refine wpAnyH_take (i := 2) (v := .pointer (some ⟨N, 3, none⟩)) rfl (by kernel_rfl) (by kernel_rfl) (by kernel_rfl) (fun _ _ _ h => h) (Or.inl ⟨by rfl, by intro w hSw; clear hSw; go_simp⟩) (trivial) ?_
  change wpAnyH _ _ _ _ _ _ _ (Act.put _ (some 41) _) _
  try simp only [Act.put, zA8, zB8, zC8]
  refine wpAnyH_take (i := 4) (v := .string (bs x)) rfl (by kernel_rfl) (by kernel_rfl) (by kernel_rfl) (fun _ _ _ h => h) (Or.inl ⟨by rfl, by intro w hSw; clear hSw; go_simp⟩) (trivial) ?_
  change wpAnyH _ _ _ _ _ _ _ (Act.put _ (some 43) _) _
  try simp only [Act.put, zA8, zB8, zC8]
  refine wpAnyH_take (i := 5) (v := .agg #[.string ⟨#[]⟩, .string ⟨#[]⟩, .slice none 0 0, .slice none 0 0, sV x]) rfl (by kernel_rfl) (by kernel_rfl) (by kernel_rfl) (fun _ _ _ h => h) (Or.inl ⟨by rfl, by intro w hSw; clear hSw; go_simp⟩) (trivial) ?_
  change wpAnyH _ _ _ _ _ _ _ (Act.put _ (some 44) _) _
  try simp only [Act.put, zA8, zB8, zC8]
  refine wpAnyH_ready (rs := [3, 7]) (by kernel_rfl) (by simp) ?_
  refine AllReadyH.cons (o := { dst := some 42, op := .load 25 (.tmp 41), type := _, pos := _, after := _, guard := none }) rfl (fun K0 hK => ?_) ?_
  ·-- the kids are read first
   have c3 : w0.cell? ⟨N, 3, none⟩ = some (.slice (some ⟨g9, 0, none⟩) (j + 1) kc) := H0.blk.cell 3
   go_simp
   refine hK.out _ _ (trivial) (fun _ => ?_)
   clear hK K0 c3
   try simp only [Act.put, zA8, zB8, zC8]
   refine wpAnyH_take (i := 6) (v := .int .i64 ((j + 1) : Int)) rfl (by kernel_rfl) (by kernel_rfl) (by kernel_rfl) (fun _ _ _ h => h) (Or.inl ⟨by rfl, by intro w hSw; clear hSw; go_simp⟩) (trivial) ?_
   change wpAnyH _ _ _ _ _ _ _ (Act.put _ (some 45) _) _
   try simp only [Act.put, zA8, zB8, zC8]
   refine wpAnyH_ready (rs := [7]) (by kernel_rfl) (by simp) ?_
   refine AllReadyH.cons (o := { dst := some 46, op := .buildSlice 25 1 #[(0, .const (.agg #[.string ⟨#[]⟩, .string ⟨#[]⟩, .slice none 0 0, .slice none 0 0, .string ⟨#[]⟩]))], type := _, pos := _, after := _, guard := none }) rfl (fun K0 hK => ?_) AllReadyH.nil
   go_simp
   have hb1 := below_alloc8 w0 ZN
   have H1 := H0.below hb1
   have X1 := X0.below hb1
   have Z1 : Blk N0 ZN (w0.alloc ZN) := by have := Blk.new ZN w0; rwa [s0] at this
   have s1 : (w0.alloc ZN).heap.size = N0 + 1 := by simp [s0]
   have BW1 := hid hb1
   refine hK.out _ _ (trivial) (fun _ => ?_)
   clear hK K0 hb1
   try simp only [Act.put, zA8, zB8, zC8]
   generalize w0.alloc ZN = w1 at *
   obtain ⟨i0, hi, hz0, hz1, hz2⟩ := info_parts Tryz.info8N
   refine wpAnyH_ready (rs := [8]) (by kernel_rfl) (by simp) ?_
   refine AllReadyH.cons (o := { dst := some 47, op := .call { callee := .builtin .append, args := #[.tmp 42, .tmp 46], argTypes := #[25, 25] }, type := _, pos := _, after := _, guard := none }) rfl (fun K' hK' => ?_) AllReadyH.nil
   refine step_append_lies w1 rfl (.tmp 42) (.tmp 46) 25 rfl (N + 1) TNo i0 _ 5 96 Tryz.underlying25 hi hz0 hz1 hz2 rfl (by decide) (.slice (some ⟨g9, 0, none⟩) (j + 1) kc) (j + 1) cs rfl (by have := H1.kids; rw [HK.out] at this; exact this) ⟨N0, 0, none⟩ 1 1 zN5 rfl rfl (World.news_of_block Z1) (fun u hu => by simp at hu; rcases hu with rfl | rfl | rfl | rfl | rfl <;> rfl) (by decide) (by unfold maxLen; omega) (by omega) (by have := H0.blk.lt; omega) (N0 + 1) s1 ?_
   intro g cap w2 L2 gr2 at2 lt2
   have o2 := Off.of_grown gr2
   have hat : (Value.slice (some ⟨g9, 0, none⟩) (j + 1) kc).ownBlock = some g ∨ w0.heap.size ≤ g := at2.imp id (fun h => by omega)
   have hgN : N < g := by
    rcases hat with h | h
    ·exact (World.ownsRow.lt H0.kids g h).1
    ·have := H0.blk.lt; omega
   have hgT : ∀ b, Tn B R N (.slice (some ⟨g9, 0, none⟩) (j + 1) kc) w0 b → b ≠ g := fun b hb e => by
    subst e
    rcases hat with h | h
    ·exact hb.2.2.2.2 h
    ·have := hb.2.1; omega
   refine hK'.out _ _ (trivial) (fun _ => ?_)
   clear hK' K'
   try simp only [Act.put, zA8, zB8, zC8]
   have B2 := o2.blk H1.blk (fun e => by have := (World.ownsRow.lt H0.kids N e).1; omega)
   have hT1 : ∀ b, Tn B R N (.slice (some ⟨g9, 0, none⟩) (j + 1) kc) w1 b ∧ b < w0.heap.size → Tn B R N (.slice (some ⟨g9, 0, none⟩) (j + 1) kc) w0 b := fun b h => ⟨h.1.1, h.2, h.1.2.2⟩
   have R2 : XRs w2 (Tn B R N (.slice (some ⟨g9, 0, none⟩) (j + 1) kc) w0) ks cs := XRs.off o2 (fun b hb e => hb.2.2.2.2 e) _ _ (XRs.off (Off.of_below (BW1.out)) (fun _ _ h => h) _ _ H0.read)
   have X2 : XR w2 (Tn B R N (.slice (some ⟨g9, 0, none⟩) (j + 1) kc) w0) v (.agg #[.string ⟨#[]⟩, .string ⟨#[]⟩, .slice none 0 0, .slice none 0 0, sV x]) := XR.off o2 (fun b hb e => hb.2.2.2.2 e) _ _ (X0.below BW1.out)
   have A2 : RC w2 (Tn B R N (.slice (some ⟨g9, 0, none⟩) (j + 1) kc) w0) aA (cA al) := (AT0.below BW1.out).off o2 (fun b hb e => hb.2.2.2.2 e)
   have O2 : Off (fun b => N ≤ b) w0 w2 := ((Off.of_below BW1.out).mono (fun _ h => h.elim)).trans o2 (fun b h => .inl (by have := (World.ownsRow.lt H0.kids b h).1; omega))
   clear at2 gr2 o2 Z1 s1 hT1
   have hg1 : (0 : Int) ≤ ((j + 1) : Int) ∧ ((j + 1) : Int) < (((j + 1) + 1 : Nat) : Int) := by omega
   have hg2 : (0 : Int) ≤ ((j + 1) : Int) ∧ ((j + 1) : Int) < ((j + 1) : Int) + 1 := by omega
   refine wpAnyH_take (i := 9) (v := .pointer (some ⟨g, (j + 1) * 5, none⟩)) rfl (by kernel_rfl) (by kernel_rfl) (by kernel_rfl) (fun _ _ _ h => h) (Or.inl ⟨by rfl, by intro w hSw; clear hSw; go_simp⟩) (trivial) ?_
   change wpAnyH _ _ _ _ _ _ _ (Act.put _ (some 48) _) _
   try simp only [Act.put, zA8, zB8, zC8]
   refine wpAnyH_take (i := 11) (v := .pointer (some ⟨N, 0, none⟩)) rfl (by kernel_rfl) (by kernel_rfl) (by kernel_rfl) (fun _ _ _ h => h) (Or.inl ⟨by rfl, by intro w hSw; clear hSw; go_simp⟩) (trivial) ?_
   change wpAnyH _ _ _ _ _ _ _ (Act.put _ (some 49) _) _
   try simp only [Act.put, zA8, zB8, zC8]
   refine wpAnyH_take (i := 12) (v := .pointer (some ⟨N, 3, none⟩)) rfl (by kernel_rfl) (by kernel_rfl) (by kernel_rfl) (fun _ _ _ h => h) (Or.inl ⟨by rfl, by intro w hSw; clear hSw; go_simp⟩) (trivial) ?_
   change wpAnyH _ _ _ _ _ _ _ (Act.put _ (some 50) _) _
   try simp only [Act.put, zA8, zB8, zC8]
   refine wpAnyH_ready (rs := [10, 13]) (by kernel_rfl) (by simp) ?_
   refine AllReadyH.cons (o := { dst := none, op := .store TNo (.tmp 48) (.tmp 44), type := _, pos := _, after := _, guard := none }) rfl (fun K0 hK => ?_) ?_
   ·-- the element first
    refine step_st5 rfl 48 44 rfl rfl w2 (b := g) (k := (j + 1) * 5) (x0 := .string ⟨#[]⟩) (x1 := .string ⟨#[]⟩) (x2 := .slice none 0 0) (x3 := .slice none 0 0) (x4 := sV x) rfl rfl (own5_there L2) (all5 rfl rfl rfl rfl rfl) ?_
    have o3 := off_sets8 g [.string ⟨#[]⟩, .string ⟨#[]⟩, .slice none 0 0, .slice none 0 0, sV x] ((j + 1) * 5) w2
    have L3 := own5_set (x0 := .string ⟨#[]⟩) (x1 := .string ⟨#[]⟩) (x2 := .slice none 0 0) (x3 := .slice none 0 0) (x4 := sV x) (by have := H0.kids.1; rw [HK.out] at this; exact this) L2
    have B3 := o3.blk B2 (fun e => by omega)
    have R3 := XRs.off o3 (fun b hb e => hgT b hb e) _ _ R2
    have X3 := XR.off o3 (fun b hb e => hgT b hb e) _ _ X2
    have A3 := A2.off o3 (fun b hb e => hgT b hb e)
    have O3 := O2.trans o3 (fun b h => .inl (by omega))
    refine hK.out _ _ (trivial) (fun _ => ?_)
    clear hK
    generalize w2.setCells g ((j + 1) * 5) [.string ⟨#[]⟩, .string ⟨#[]⟩, .slice none 0 0, .slice none 0 0, sV x] = w3 at *
    refine wpAnyH_ready (rs := [13]) (by kernel_rfl) (by simp) ?_
    refine AllReadyH.cons (o := { dst := none, op := .store 25 (.tmp 50) (.tmp 47), type := _, pos := _, after := _, guard := none }) rfl (fun K0 hK => ?_) AllReadyH.nil
    refine step_stS rfl 50 47 rfl rfl w3 (b := N) (k := 3) (v := .slice (some ⟨g, 0, none⟩) ((j + 1) + 1) cap) rfl rfl (B3.cell 3) (B3.free 3) ⟨_, _, _, rfl⟩ ?_
    have o4 := off_set8 w3 N 3 (.slice (some ⟨g, 0, none⟩) ((j + 1) + 1) cap)
    have L4 := own_off L3 o4 (fun b hb e => by have : g = b := Option.some.inj hb; omega)
    have B4 : Blk N (.cells #[sV sp, sV nm, av, .slice (some ⟨g, 0, none⟩) ((j + 1) + 1) cap, .string ⟨#[]⟩] TNo) (w3.setCell ⟨N, 3, none⟩ (.slice (some ⟨g, 0, none⟩) ((j + 1) + 1) cap)) := by have := B3.set 3 (.slice (some ⟨g, 0, none⟩) ((j + 1) + 1) cap); simpa using this
    have R4 := XRs.off o4 (fun b hb e => hb.2.2.2.1 e) _ _ R3
    have X4 := XR.off o4 (fun b hb e => hb.2.2.2.1 e) _ _ X3
    have A4 := A3.off o4 (fun b hb e => hb.2.2.2.1 e)
    have O4 := O3.trans o4 (fun b h => .inl (by omega))
    refine hK.out _ _ (trivial) (fun _ => ?_)
    clear hK
    generalize w3.setCell ⟨N, 3, none⟩ (.slice (some ⟨g, 0, none⟩) ((j + 1) + 1) cap) = w4 at *
    refine wpAnyH_done (by kernel_rfl) ?_ _
    have HN4 : Hid (NSt B R N sp nm al (ks ++ [v]) av (.slice (some ⟨g, 0, none⟩) ((j + 1) + 1) cap) (cs ++ [.string ⟨#[]⟩, .string ⟨#[]⟩, .slice none 0 0, .slice none 0 0, sV x]) w4) := hid (H0.pushed HK.out B4 L4 (XRs.snoc X4 ks cs R4) ⟨aA, ac, HAV.out, A4⟩ hat O4.size)
    have HO4 := hid O4
    clear L2 B2 R2 X2 A2 O2 L3 B3 R3 X3 A3 O3 L4 B4 R4 X4 A4 O4 o3 o4
    go_wp2
    go_end0
    exact ⟨rfl, (Off.of_below HD.out |>.mono (fun _ h => h.elim)).trans HO4.out (fun b h => .inl h), _, _, HN4.out⟩
   refine AllReadyH.cons (o := { dst := none, op := .store 25 (.tmp 50) (.tmp 47), type := _, pos := _, after := _, guard := none }) rfl (fun K0 hK => ?_) AllReadyH.nil
   refine step_stS rfl 50 47 rfl rfl w2 (b := N) (k := 3) (v := .slice (some ⟨g, 0, none⟩) ((j + 1) + 1) cap) rfl rfl (B2.cell 3) (B2.free 3) ⟨_, _, _, rfl⟩ ?_
   have o3 := off_set8 w2 N 3 (.slice (some ⟨g, 0, none⟩) ((j + 1) + 1) cap)
   have L3 := own_off L2 o3 (fun b hb e => by have : g = b := Option.some.inj hb; omega)
   have B3 : Blk N (.cells #[sV sp, sV nm, av, .slice (some ⟨g, 0, none⟩) ((j + 1) + 1) cap, .string ⟨#[]⟩] TNo) (w2.setCell ⟨N, 3, none⟩ (.slice (some ⟨g, 0, none⟩) ((j + 1) + 1) cap)) := by have := B2.set 3 (.slice (some ⟨g, 0, none⟩) ((j + 1) + 1) cap); simpa using this
   have R3 := XRs.off o3 (fun b hb e => hb.2.2.2.1 e) _ _ R2
   have X3 := XR.off o3 (fun b hb e => hb.2.2.2.1 e) _ _ X2
   have A3 := A2.off o3 (fun b hb e => hb.2.2.2.1 e)
   have O3 := O2.trans o3 (fun b h => .inl (by omega))
   refine hK.out _ _ (trivial) (fun _ => ?_)
   clear hK
   generalize w2.setCell ⟨N, 3, none⟩ (.slice (some ⟨g, 0, none⟩) ((j + 1) + 1) cap) = w3 at *
   refine wpAnyH_ready (rs := [10]) (by kernel_rfl) (by simp) ?_
   refine AllReadyH.cons (o := { dst := none, op := .store TNo (.tmp 48) (.tmp 44), type := _, pos := _, after := _, guard := none }) rfl (fun K0 hK => ?_) AllReadyH.nil
   refine step_st5 rfl 48 44 rfl rfl w3 (b := g) (k := (j + 1) * 5) (x0 := .string ⟨#[]⟩) (x1 := .string ⟨#[]⟩) (x2 := .slice none 0 0) (x3 := .slice none 0 0) (x4 := sV x) rfl rfl (own5_there L3) (all5 rfl rfl rfl rfl rfl) ?_
   have o4 := off_sets8 g [.string ⟨#[]⟩, .string ⟨#[]⟩, .slice none 0 0, .slice none 0 0, sV x] ((j + 1) * 5) w3
   have L4 := own5_set (x0 := .string ⟨#[]⟩) (x1 := .string ⟨#[]⟩) (x2 := .slice none 0 0) (x3 := .slice none 0 0) (x4 := sV x) (by have := H0.kids.1; rw [HK.out] at this; exact this) L3
   have B4 := o4.blk B3 (fun e => by omega)
   have R4 := XRs.off o4 (fun b hb e => hgT b hb e) _ _ R3
   have X4 := XR.off o4 (fun b hb e => hgT b hb e) _ _ X3
   have A4 := A3.off o4 (fun b hb e => hgT b hb e)
   have O4 := O3.trans o4 (fun b h => .inl (by omega))
   refine hK.out _ _ (trivial) (fun _ => ?_)
   clear hK
   generalize w3.setCells g ((j + 1) * 5) [.string ⟨#[]⟩, .string ⟨#[]⟩, .slice none 0 0, .slice none 0 0, sV x] = w4 at *
   refine wpAnyH_done (by kernel_rfl) ?_ _
   have HN4 : Hid (NSt B R N sp nm al (ks ++ [v]) av (.slice (some ⟨g, 0, none⟩) ((j + 1) + 1) cap) (cs ++ [.string ⟨#[]⟩, .string ⟨#[]⟩, .slice none 0 0, .slice none 0 0, sV x]) w4) := hid (H0.pushed HK.out B4 L4 (XRs.snoc X4 ks cs R4) ⟨aA, ac, HAV.out, A4⟩ hat O4.size)
   have HO4 := hid O4
   clear L2 B2 R2 X2 A2 O2 L3 B3 R3 X3 A3 O3 L4 B4 R4 X4 A4 O4 o3 o4
   go_wp2
   go_end0
   exact ⟨rfl, (Off.of_below HD.out |>.mono (fun _ h => h.elim)).trans HO4.out (fun b h => .inl h), _, _, HN4.out⟩
  refine AllReadyH.cons (o := { dst := some 46, op := .buildSlice 25 1 #[(0, .const (.agg #[.string ⟨#[]⟩, .string ⟨#[]⟩, .slice none 0 0, .slice none 0 0, .string ⟨#[]⟩]))], type := _, pos := _, after := _, guard := none }) rfl (fun K0 hK => ?_) AllReadyH.nil
  go_simp
  have hb1 := below_alloc8 w0 ZN
  have H1 := H0.below hb1
  have X1 := X0.below hb1
  have Z1 : Blk N0 ZN (w0.alloc ZN) := by have := Blk.new ZN w0; rwa [s0] at this
  have s1 : (w0.alloc ZN).heap.size = N0 + 1 := by simp [s0]
  have BW1 := hid hb1
  refine hK.out _ _ (trivial) (fun _ => ?_)
  clear hK K0 hb1
  try simp only [Act.put, zA8, zB8, zC8]
  generalize w0.alloc ZN = w1 at *
  refine wpAnyH_ready (rs := [3]) (by kernel_rfl) (by simp) ?_
  refine AllReadyH.cons (o := { dst := some 42, op := .load 25 (.tmp 41), type := _, pos := _, after := _, guard := none }) rfl (fun K0 hK => ?_) AllReadyH.nil
  have c3 : w1.cell? ⟨N, 3, none⟩ = some (.slice (some ⟨g9, 0, none⟩) (j + 1) kc) := H1.blk.cell 3
  go_simp
  refine hK.out _ _ (trivial) (fun _ => ?_)
  clear hK K0 c3
  try simp only [Act.put, zA8, zB8, zC8]
  refine wpAnyH_take (i := 6) (v := .int .i64 ((j + 1) : Int)) rfl (by kernel_rfl) (by kernel_rfl) (by kernel_rfl) (fun _ _ _ h => h) (Or.inl ⟨by rfl, by intro w hSw; clear hSw; go_simp⟩) (trivial) ?_
  change wpAnyH _ _ _ _ _ _ _ (Act.put _ (some 45) _) _
  try simp only [Act.put, zA8, zB8, zC8]
  obtain ⟨i0, hi, hz0, hz1, hz2⟩ := info_parts Tryz.info8N
  refine wpAnyH_ready (rs := [8]) (by kernel_rfl) (by simp) ?_
  refine AllReadyH.cons (o := { dst := some 47, op := .call { callee := .builtin .append, args := #[.tmp 42, .tmp 46], argTypes := #[25, 25] }, type := _, pos := _, after := _, guard := none }) rfl (fun K' hK' => ?_) AllReadyH.nil
  refine step_append_lies w1 rfl (.tmp 42) (.tmp 46) 25 rfl (N + 1) TNo i0 _ 5 96 Tryz.underlying25 hi hz0 hz1 hz2 rfl (by decide) (.slice (some ⟨g9, 0, none⟩) (j + 1) kc) (j + 1) cs rfl (by have := H1.kids; rw [HK.out] at this; exact this) ⟨N0, 0, none⟩ 1 1 zN5 rfl rfl (World.news_of_block Z1) (fun u hu => by simp at hu; rcases hu with rfl | rfl | rfl | rfl | rfl <;> rfl) (by decide) (by unfold maxLen; omega) (by omega) (by have := H0.blk.lt; omega) (N0 + 1) s1 ?_
  intro g cap w2 L2 gr2 at2 lt2
  have o2 := Off.of_grown gr2
  have hat : (Value.slice (some ⟨g9, 0, none⟩) (j + 1) kc).ownBlock = some g ∨ w0.heap.size ≤ g := at2.imp id (fun h => by omega)
  have hgN : N < g := by
   rcases hat with h | h
   ·exact (World.ownsRow.lt H0.kids g h).1
   ·have := H0.blk.lt; omega
  have hgT : ∀ b, Tn B R N (.slice (some ⟨g9, 0, none⟩) (j + 1) kc) w0 b → b ≠ g := fun b hb e => by
   subst e
   rcases hat with h | h
   ·exact hb.2.2.2.2 h
   ·have := hb.2.1; omega
  refine hK'.out _ _ (trivial) (fun _ => ?_)
  clear hK' K'
  try simp only [Act.put, zA8, zB8, zC8]
  have B2 := o2.blk H1.blk (fun e => by have := (World.ownsRow.lt H0.kids N e).1; omega)
  have hT1 : ∀ b, Tn B R N (.slice (some ⟨g9, 0, none⟩) (j + 1) kc) w1 b ∧ b < w0.heap.size → Tn B R N (.slice (some ⟨g9, 0, none⟩) (j + 1) kc) w0 b := fun b h => ⟨h.1.1, h.2, h.1.2.2⟩
  have R2 : XRs w2 (Tn B R N (.slice (some ⟨g9, 0, none⟩) (j + 1) kc) w0) ks cs := XRs.off o2 (fun b hb e => hb.2.2.2.2 e) _ _ (XRs.off (Off.of_below (BW1.out)) (fun _ _ h => h) _ _ H0.read)
  have X2 : XR w2 (Tn B R N (.slice (some ⟨g9, 0, none⟩) (j + 1) kc) w0) v (.agg #[.string ⟨#[]⟩, .string ⟨#[]⟩, .slice none 0 0, .slice none 0 0, sV x]) := XR.off o2 (fun b hb e => hb.2.2.2.2 e) _ _ (X0.below BW1.out)
  have A2 : RC w2 (Tn B R N (.slice (some ⟨g9, 0, none⟩) (j + 1) kc) w0) aA (cA al) := (AT0.below BW1.out).off o2 (fun b hb e => hb.2.2.2.2 e)
  have O2 : Off (fun b => N ≤ b) w0 w2 := ((Off.of_below BW1.out).mono (fun _ h => h.elim)).trans o2 (fun b h => .inl (by have := (World.ownsRow.lt H0.kids b h).1; omega))
  clear at2 gr2 o2 Z1 s1 hT1
  have hg1 : (0 : Int) ≤ ((j + 1) : Int) ∧ ((j + 1) : Int) < (((j + 1) + 1 : Nat) : Int) := by omega
  have hg2 : (0 : Int) ≤ ((j + 1) : Int) ∧ ((j + 1) : Int) < ((j + 1) : Int) + 1 := by omega
  refine wpAnyH_take (i := 9) (v := .pointer (some ⟨g, (j + 1) * 5, none⟩)) rfl (by kernel_rfl) (by kernel_rfl) (by kernel_rfl) (fun _ _ _ h => h) (Or.inl ⟨by rfl, by intro w hSw; clear hSw; go_simp⟩) (trivial) ?_
  change wpAnyH _ _ _ _ _ _ _ (Act.put _ (some 48) _) _
  try simp only [Act.put, zA8, zB8, zC8]
  refine wpAnyH_take (i := 11) (v := .pointer (some ⟨N, 0, none⟩)) rfl (by kernel_rfl) (by kernel_rfl) (by kernel_rfl) (fun _ _ _ h => h) (Or.inl ⟨by rfl, by intro w hSw; clear hSw; go_simp⟩) (trivial) ?_
  change wpAnyH _ _ _ _ _ _ _ (Act.put _ (some 49) _) _
  try simp only [Act.put, zA8, zB8, zC8]
  refine wpAnyH_take (i := 12) (v := .pointer (some ⟨N, 3, none⟩)) rfl (by kernel_rfl) (by kernel_rfl) (by kernel_rfl) (fun _ _ _ h => h) (Or.inl ⟨by rfl, by intro w hSw; clear hSw; go_simp⟩) (trivial) ?_
  change wpAnyH _ _ _ _ _ _ _ (Act.put _ (some 50) _) _
  try simp only [Act.put, zA8, zB8, zC8]
  refine wpAnyH_ready (rs := [10, 13]) (by kernel_rfl) (by simp) ?_
  refine AllReadyH.cons (o := { dst := none, op := .store TNo (.tmp 48) (.tmp 44), type := _, pos := _, after := _, guard := none }) rfl (fun K0 hK => ?_) ?_
  ·-- the element first
   refine step_st5 rfl 48 44 rfl rfl w2 (b := g) (k := (j + 1) * 5) (x0 := .string ⟨#[]⟩) (x1 := .string ⟨#[]⟩) (x2 := .slice none 0 0) (x3 := .slice none 0 0) (x4 := sV x) rfl rfl (own5_there L2) (all5 rfl rfl rfl rfl rfl) ?_
   have o3 := off_sets8 g [.string ⟨#[]⟩, .string ⟨#[]⟩, .slice none 0 0, .slice none 0 0, sV x] ((j + 1) * 5) w2
   have L3 := own5_set (x0 := .string ⟨#[]⟩) (x1 := .string ⟨#[]⟩) (x2 := .slice none 0 0) (x3 := .slice none 0 0) (x4 := sV x) (by have := H0.kids.1; rw [HK.out] at this; exact this) L2
   have B3 := o3.blk B2 (fun e => by omega)
   have R3 := XRs.off o3 (fun b hb e => hgT b hb e) _ _ R2
   have X3 := XR.off o3 (fun b hb e => hgT b hb e) _ _ X2
   have A3 := A2.off o3 (fun b hb e => hgT b hb e)
   have O3 := O2.trans o3 (fun b h => .inl (by omega))
   refine hK.out _ _ (trivial) (fun _ => ?_)
   clear hK
   generalize w2.setCells g ((j + 1) * 5) [.string ⟨#[]⟩, .string ⟨#[]⟩, .slice none 0 0, .slice none 0 0, sV x] = w3 at *
   refine wpAnyH_ready (rs := [13]) (by kernel_rfl) (by simp) ?_
   refine AllReadyH.cons (o := { dst := none, op := .store 25 (.tmp 50) (.tmp 47), type := _, pos := _, after := _, guard := none }) rfl (fun K0 hK => ?_) AllReadyH.nil
   refine step_stS rfl 50 47 rfl rfl w3 (b := N) (k := 3) (v := .slice (some ⟨g, 0, none⟩) ((j + 1) + 1) cap) rfl rfl (B3.cell 3) (B3.free 3) ⟨_, _, _, rfl⟩ ?_
   have o4 := off_set8 w3 N 3 (.slice (some ⟨g, 0, none⟩) ((j + 1) + 1) cap)
   have L4 := own_off L3 o4 (fun b hb e => by have : g = b := Option.some.inj hb; omega)
   have B4 : Blk N (.cells #[sV sp, sV nm, av, .slice (some ⟨g, 0, none⟩) ((j + 1) + 1) cap, .string ⟨#[]⟩] TNo) (w3.setCell ⟨N, 3, none⟩ (.slice (some ⟨g, 0, none⟩) ((j + 1) + 1) cap)) := by have := B3.set 3 (.slice (some ⟨g, 0, none⟩) ((j + 1) + 1) cap); simpa using this
   have R4 := XRs.off o4 (fun b hb e => hb.2.2.2.1 e) _ _ R3
   have X4 := XR.off o4 (fun b hb e => hb.2.2.2.1 e) _ _ X3
   have A4 := A3.off o4 (fun b hb e => hb.2.2.2.1 e)
   have O4 := O3.trans o4 (fun b h => .inl (by omega))
   refine hK.out _ _ (trivial) (fun _ => ?_)
   clear hK
   generalize w3.setCell ⟨N, 3, none⟩ (.slice (some ⟨g, 0, none⟩) ((j + 1) + 1) cap) = w4 at *
   refine wpAnyH_done (by kernel_rfl) ?_ _
   have HN4 : Hid (NSt B R N sp nm al (ks ++ [v]) av (.slice (some ⟨g, 0, none⟩) ((j + 1) + 1) cap) (cs ++ [.string ⟨#[]⟩, .string ⟨#[]⟩, .slice none 0 0, .slice none 0 0, sV x]) w4) := hid (H0.pushed HK.out B4 L4 (XRs.snoc X4 ks cs R4) ⟨aA, ac, HAV.out, A4⟩ hat O4.size)
   have HO4 := hid O4
   clear L2 B2 R2 X2 A2 O2 L3 B3 R3 X3 A3 O3 L4 B4 R4 X4 A4 O4 o3 o4
   go_wp2
   go_end0
   exact ⟨rfl, (Off.of_below HD.out |>.mono (fun _ h => h.elim)).trans HO4.out (fun b h => .inl h), _, _, HN4.out⟩
  refine AllReadyH.cons (o := { dst := none, op := .store 25 (.tmp 50) (.tmp 47), type := _, pos := _, after := _, guard := none }) rfl (fun K0 hK => ?_) AllReadyH.nil
  refine step_stS rfl 50 47 rfl rfl w2 (b := N) (k := 3) (v := .slice (some ⟨g, 0, none⟩) ((j + 1) + 1) cap) rfl rfl (B2.cell 3) (B2.free 3) ⟨_, _, _, rfl⟩ ?_
  have o3 := off_set8 w2 N 3 (.slice (some ⟨g, 0, none⟩) ((j + 1) + 1) cap)
  have L3 := own_off L2 o3 (fun b hb e => by have : g = b := Option.some.inj hb; omega)
  have B3 : Blk N (.cells #[sV sp, sV nm, av, .slice (some ⟨g, 0, none⟩) ((j + 1) + 1) cap, .string ⟨#[]⟩] TNo) (w2.setCell ⟨N, 3, none⟩ (.slice (some ⟨g, 0, none⟩) ((j + 1) + 1) cap)) := by have := B2.set 3 (.slice (some ⟨g, 0, none⟩) ((j + 1) + 1) cap); simpa using this
  have R3 := XRs.off o3 (fun b hb e => hb.2.2.2.1 e) _ _ R2
  have X3 := XR.off o3 (fun b hb e => hb.2.2.2.1 e) _ _ X2
  have A3 := A2.off o3 (fun b hb e => hb.2.2.2.1 e)
  have O3 := O2.trans o3 (fun b h => .inl (by omega))
  refine hK.out _ _ (trivial) (fun _ => ?_)
  clear hK
  generalize w2.setCell ⟨N, 3, none⟩ (.slice (some ⟨g, 0, none⟩) ((j + 1) + 1) cap) = w3 at *
  refine wpAnyH_ready (rs := [10]) (by kernel_rfl) (by simp) ?_
  refine AllReadyH.cons (o := { dst := none, op := .store TNo (.tmp 48) (.tmp 44), type := _, pos := _, after := _, guard := none }) rfl (fun K0 hK => ?_) AllReadyH.nil
  refine step_st5 rfl 48 44 rfl rfl w3 (b := g) (k := (j + 1) * 5) (x0 := .string ⟨#[]⟩) (x1 := .string ⟨#[]⟩) (x2 := .slice none 0 0) (x3 := .slice none 0 0) (x4 := sV x) rfl rfl (own5_there L3) (all5 rfl rfl rfl rfl rfl) ?_
  have o4 := off_sets8 g [.string ⟨#[]⟩, .string ⟨#[]⟩, .slice none 0 0, .slice none 0 0, sV x] ((j + 1) * 5) w3
  have L4 := own5_set (x0 := .string ⟨#[]⟩) (x1 := .string ⟨#[]⟩) (x2 := .slice none 0 0) (x3 := .slice none 0 0) (x4 := sV x) (by have := H0.kids.1; rw [HK.out] at this; exact this) L3
  have B4 := o4.blk B3 (fun e => by omega)
  have R4 := XRs.off o4 (fun b hb e => hgT b hb e) _ _ R3
  have X4 := XR.off o4 (fun b hb e => hgT b hb e) _ _ X3
  have A4 := A3.off o4 (fun b hb e => hgT b hb e)
  have O4 := O3.trans o4 (fun b h => .inl (by omega))
  refine hK.out _ _ (trivial) (fun _ => ?_)
  clear hK
  generalize w3.setCells g ((j + 1) * 5) [.string ⟨#[]⟩, .string ⟨#[]⟩, .slice none 0 0, .slice none 0 0, sV x] = w4 at *
  refine wpAnyH_done (by kernel_rfl) ?_ _
  have HN4 : Hid (NSt B R N sp nm al (ks ++ [v]) av (.slice (some ⟨g, 0, none⟩) ((j + 1) + 1) cap) (cs ++ [.string ⟨#[]⟩, .string ⟨#[]⟩, .slice none 0 0, .slice none 0 0, sV x]) w4) := hid (H0.pushed HK.out B4 L4 (XRs.snoc X4 ks cs R4) ⟨aA, ac, HAV.out, A4⟩ hat O4.size)
  have HO4 := hid O4
  clear L2 B2 R2 X2 A2 O2 L3 B3 R3 X3 A3 O3 L4 B4 R4 X4 A4 O4 o3 o4
  go_wp2
  go_end0
  exact ⟨rfl, (Off.of_below HD.out |>.mono (fun _ h => h.elim)).trans HO4.out (fun b h => .inl h), _, _, HN4.out⟩
theorem radd_any {B R N : Nat} {sp nm : Bt} {al : List XA} {ks : List XV} {t x : Bt} {av kv : Value} {cs : List Value} {w : World} (H : NSt B R N sp nm al (allX ks t) av kv cs w) (hE : LastE ks) (hk : ks.length ≤ 500000) (hl : t.length + x.length ≤ 1000000) :
    Calls Tryz.prog 87 #[.pointer (some ⟨N, 0, none⟩), .string (bs x)] w (AddO B R N sp nm al (allX ks (t ++ x)) av w) := by
 by_cases hx : x = []
 ·subst hx
  rw [List.append_nil]
  have HH := hid H
  have hs0 : (bs ([] : Bt)).toList = [] := by rw [bs_toList]
  clear H hE hk hl
  go_enter Tryz.func87, Tryz.ntmps87
  go_wp2
  go_end0
  exact ⟨rfl, Off.refl _ _, _, _, HH.out⟩
 ·by_cases ht : t = []
  ·subst ht
   rw [List.nil_append, allX_text hx]
   rw [allX_nil] at H
   exact radd_push H hx hE hk
  ·rw [allX_text ht] at H
   rw [allX_add ht]
   exact radd_more H hx hk hl
end Go.Proofs.YtklcjimmbkpbdaaGreatDoor
