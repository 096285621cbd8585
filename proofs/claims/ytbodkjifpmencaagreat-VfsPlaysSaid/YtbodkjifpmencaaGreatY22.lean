/-
  Of the proof that disks answer every script as the document says: the parts VgI VgJ VgK VgL. No conditions.
-/
import Derived.Test.YtbodkjifpmencaaGreatY21
import Derived.Laws.OwnMore
namespace Go.Proofs.YtbodkjifpmencaaGreat
open Go.RowKit
open Go.Lib

/-- From w on the document's disk at X has become r; what has turned of old lies in T. -/
def Rs (T : Nat → Prop) (X : Nat) (r : R) (w w' : World) : Prop := (∃ G, RD (More T w w') X G r w') ∧ Off T w w'
theorem Rs.refl {T : Nat → Prop} {X : Nat} {G : RLay} {r : R} {w : World} (H : RD T X G r w) : Rs T X r w w := ⟨⟨G, H.mono (fun _ h => .inl h)⟩, Off.refl _ _⟩
theorem Rs.below {T : Nat → Prop} {X : Nat} {r : R} {w w' w'' : World} (h : Rs T X r w w') (hb : Below w'.heap.size w' w'') : Rs T X r w w'' := by
  obtain ⟨⟨G, hG⟩, ho⟩ := h
  exact ⟨⟨G, (hG.off (Off.of_below hb) (fun _ _ h => h)).mono (fun _ x => x.mono hb.size)⟩, ho.trans (Off.of_below hb) (fun _ h => h.elim)⟩
theorem Rs.call {T F : Nat → Prop} {X : Nat} {r r' : R} {w w' w'' : World} {G : RLay} (h : Rs T X r w w') (hR : RD (More T w w') X G r' w'') (hF : ∀ b, F b → More T w w' b) (ho : Off F w' w'') : Rs T X r' w w'' :=
  ⟨⟨G, hR.mono (fun _ x => x.mono ho.size)⟩, h.2.trans ho (fun x hx => (hF x hx).elim .inl fun y => .inr y.1)⟩
theorem Rs.more {T F : Nat → Prop} {X : Nat} {r r' : R} {w w' w'' : World} {G : RLay} (h : Rs T X r w w') (hR : RD (More (More T w w') w' w'') X G r' w'') (hF : ∀ b, F b → More T w w' b) (ho : Off F w' w'') : Rs T X r' w w'' :=
  ⟨⟨G, hR.mono (fun _ x => x.elim (fun y => y.mono ho.size) fun y => .inr ⟨Nat.le_trans h.2.size y.1, y.2⟩)⟩, h.2.trans ho (fun x hx => (hF x hx).elim .inl fun y => .inr y.1)⟩
theorem more_lt {T : Nat → Prop} {w w' : World} (hT : ∀ b, T b → b < w.heap.size) (hs : w.heap.size ≤ w'.heap.size) : ∀ b, More T w w' b → b < w'.heap.size := fun b h => h.elim (fun x => Nat.lt_of_lt_of_le (hT b x) hs) (fun x => x.2)
theorem split_dir (p : Bs) : (splitL p).1 = dirL p := by unfold splitL dirL; cases cutS p <;> rfl
/-- One name, made anew, as the change's list. -/
theorem rcs_one {T : Nat → Prop} {w w4 : World} (p : Bs) (o : Option Nat) (hs : w.heap.size ≤ w4.heap.size) : RCs (w4.alloc (.cells #[.string (bs p), .int .i64 (intO o)] TN)) (More T w (w4.alloc (.cells #[.string (bs p), .int .i64 (intO o)] TN))) (some ⟨w4.heap.size, 0, none⟩) [(p, o)] := fun _ => by
  have hB := Blk.new (.cells #[.string (bs p), .int .i64 (intO o)] TN (0, 0)) w4
  refine ⟨w4.heap.size, 0, rfl, .inr ⟨hs, hB.lt⟩, hB.kind, fun j hj => ?_⟩
  obtain rfl : j = 0 := by simpa using hj
  exact ⟨hB.cell 0, hB.cell 1⟩
/-- The document's change of one name, from a state of the disk on. -/
theorem rs_change {T : Nat → Prop} {X : Nat} {r : R} {w w4 : World} (h : Rs T X r w w4) (hT : ∀ b, T b → b < w.heap.size) (p : Bs) (o : Option Nat) (d : Bs) (hN : r.names.length ≤ 800000) (hC : r.changes.length ≤ 800000) :
    Calls Tryz.prog 60 #[.pointer (some ⟨X, 0, none⟩), .string (bs d), .slice (some ⟨w4.heap.size, 0, none⟩) 1 1] (w4.alloc (.cells #[.string (bs p), .int .i64 (intO o)] TN)) fun e w' => e = .returned (.tuple #[]) ∧ Rs T X (changeR r d [(p, o)]) w w' := by
  have hba := (Below.refl w4.heap.size w4).alloc (Nat.le_refl _) (.cells #[.string (bs p), .int .i64 (intO o)] TN)
  have h5 := h.below hba
  obtain ⟨⟨G5, hG5⟩, o5⟩ := h5
  have hX : X < w4.heap.size := by
    obtain ⟨⟨G4, hG4⟩, _⟩ := h
    exact hG4.disk.lt
  refine (rchange_any hG5 (more_lt hT o5.size) d [(p, o)] _ 1 1 rfl (by decide) (rcs_one p o h.2.size) (fun b hb => ?_) (by omega) (by omega)).mono ?_
  · have := Option.some.inj hb
    dsimp only at this
    omega
  · rintro e w' ⟨rfl, ⟨G', hG'⟩, ho⟩
    refine ⟨rfl, Rs.more (h.below hba) hG' (fun b hb => ?_) ho⟩
    rcases hb with rfl | hb
    · exact hG5.tx
    · exact hG5.tc b hb
/-- What a call asks of the disk. -/
structure ROk (r : R) : Prop where
  nn : r.names.length ≤ 800000
  nc : r.changes.length ≤ 800000
  ix : ∀ x ∈ r.names, x.2 < r.bodies.length
  c0 : 0 ≤ r.calls
  c1 : r.calls ≤ 9223372036854775807
  us : usedR r ≤ 1000000000000000
set_option maxRecDepth 100000 in
set_option maxHeartbeats 2000000 in
theorem rremove_any {T : Nat → Prop} {X : Nat} {G : RLay} {r : R} {w : World} (H : RD T X G r w) (hT : ∀ b, T b → b < w.heap.size) (K : ROk r) (p : Bs) (hp : p.length ≤ 1000) :
    Calls Tryz.prog 30 #[.pointer (some ⟨X, 0, none⟩), .string (bs p)] w fun e w' => e = .returned (.int .i64 (removeR r p).1) ∧ Rs T X (removeR r p).2 w w' := by
  obtain ⟨b, hb⟩ : ∃ b, rightL p = b := ⟨_, rfl⟩
  obtain ⟨ev, r1, hc⟩ : ∃ e r1, callR r b = (e, r1) := ⟨_, _, rfl⟩
  have hsame := callR_same r b
  rw [hc] at hsame
  dsimp only at hsame
  have hri : ∀ W, Calls Tryz.prog 59 #[.string (bs p)] W fun e w' => e = .returned (.bool b) ∧ Below W.heap.size W w' := fun W => by
    have := rright_any (bs p) W (by rw [bs_size]; omega)
    rw [bs_list, hb] at this
    exact this
  have HRI := Lib.hid hri
  have HCA : Hid (∀ W, RD T X G r W → Calls Tryz.prog 58 #[.pointer (some ⟨X, 0, none⟩), .bool b] W fun e w' => e = .returned (.int .i64 ev) ∧ RD T X G r1 w' ∧ Off (fun k => k = X) W w') := Lib.hid (fun W hW => by
    have := rcall_any hW b K.c0 K.c1
    rw [hc] at this
    exact this)
  have HH := Lib.hid H
  have HT := Lib.hid hT
  by_cases he : ev = 0
  · subst he
    obtain ⟨nm, hnm⟩ : ∃ n, r1.names.length = n := ⟨_, rfl⟩
    have hnm2 : nm ≤ 800000 := by rw [← hnm, hsame.2.2.1]; exact K.nn
    have HNM := Lib.hid hnm
    obtain ⟨z, hz⟩ : ∃ z, intO (look r1.names p) = z := ⟨_, rfl⟩
    have HAT : Hid (∀ W A c, RN W A r1.names → Calls Tryz.prog 36 #[.slice A nm c, .string (bs p)] W fun e w' => e = .returned (.int .i64 z) ∧ Below W.heap.size W w') := Lib.hid (fun W A c hR => by
      have := rat_any r1.names A c p nm hnm W hR (by omega) (by omega)
      rw [hz] at this
      exact this)
    cases hl : look r1.names p with
    | none =>
      have hq : removeR r p = (60, r1) := by unfold removeR; rw [hb, hc]; dsimp only; rw [if_pos rfl, hl]
      rw [hq]
      rw [hl] at hz
      obtain rfl : -1 = z := hz
      clear hri H hT hc hb hnm hl
      go_enter Tryz.func30, Tryz.ntmps30
      go_wp2_with (first
        | (go_at_call 59; (with_reducible refine (HRI.out _).mono ?_); rintro e w1 ⟨rfl, b1⟩)
        | (go_at_call 58; (with_reducible refine (HCA.out _ (HH.out.off (Off.of_below b1) (fun _ _ h => h))).mono ?_); rintro e w2 ⟨rfl, hR2, o2⟩
           obtain ⟨An, cn, hn1, hn2⟩ := hR2.names
           have c2 : w2.cell? ⟨X, 2, none⟩ = some (.slice An nm cn) := (hR2.disk.cell 2).trans (by rw [← HNM.out, ← hn1]; rfl))
        | (go_at_call 36; (with_reducible refine (HAT.out _ _ _ hn2).mono ?_); rintro e w3 ⟨rfl, b3⟩))
      go_ret
      exact ⟨rfl, Rs.below (Rs.call (F := fun k => k = X) ((Rs.refl HH.out).below b1) (hR2.mono (fun _ h => .inl h)) (fun x hx => .inl (by rw [hx]; exact HH.out.tx)) o2) b3⟩
    | some k =>
      have hq : removeR r p = (0, changeR r1 (dirL p) [(p, none)]) := by unfold removeR; rw [hb, hc]; dsimp only; rw [if_pos rfl, hl]
      rw [hq]
      rw [hl] at hz
      obtain rfl : (k : Int) = z := hz
      obtain ⟨D, hD⟩ : ∃ D, bs (dirL p) = D := ⟨_, rfl⟩
      have HDI : Hid (∀ W, Calls Tryz.prog 41 #[.string (bs p)] W fun e w' => e = .returned (.string D) ∧ Below W.heap.size W w') := Lib.hid (fun W => by
        have := rdir_any (bs p) W (by rw [bs_size]; omega)
        rw [bs_list, split_dir, hD] at this
        exact this)
      have HCG : Hid (∀ W, Rs T X r1 w W → Calls Tryz.prog 60 #[.pointer (some ⟨X, 0, none⟩), .string D, .slice (some ⟨W.heap.size, 0, none⟩) 1 1] (W.alloc (.cells #[.string (bs p), .int .i64 (-1)] TN)) fun e w' => e = .returned (.tuple #[]) ∧ Rs T X (changeR r1 (dirL p) [(p, none)]) w w') := Lib.hid (fun W hW => by
        rw [← hD]
        exact rs_change hW HT.out p none (dirL p) (by rw [hsame.2.2.1]; exact K.nn) (by rw [hsame.2.1]; exact K.nc))
      clear hri H hT hc hb hnm hl hD
      go_enter Tryz.func30, Tryz.ntmps30
      go_wp2_with (first
        | (go_at_call 59; (with_reducible refine (HRI.out _).mono ?_); rintro e w1 ⟨rfl, b1⟩)
        | (go_at_call 58; (with_reducible refine (HCA.out _ (HH.out.off (Off.of_below b1) (fun _ _ h => h))).mono ?_); rintro e w2 ⟨rfl, hR2, o2⟩
           obtain ⟨An, cn, hn1, hn2⟩ := hR2.names
           have c2 : w2.cell? ⟨X, 2, none⟩ = some (.slice An nm cn) := (hR2.disk.cell 2).trans (by rw [← HNM.out, ← hn1]; rfl)
           have hs2 := Rs.call (F := fun k => k = X) ((Rs.refl HH.out).below b1) (hR2.mono (fun _ h => .inl h)) (fun x hx => .inl (by rw [hx]; exact HH.out.tx)) o2)
        | (go_at_call 36; (with_reducible refine (HAT.out _ _ _ hn2).mono ?_); rintro e w3 ⟨rfl, b3⟩)
        | (go_at_call 41; (with_reducible refine (HDI.out _).mono ?_); rintro e w4 ⟨rfl, b4⟩)
        | (go_at_call 60; (with_reducible refine (HCG.out _ ((hs2.below b3).below b4)).mono ?_); rintro e w6 ⟨rfl, hs6⟩))
      go_ret
      exact ⟨rfl, hs6⟩
  · have hq : removeR r p = (ev, r1) := by unfold removeR; rw [hb, hc]; dsimp only; rw [if_neg he]
    rw [hq]
    clear hri H hT hc hb
    have he2 : (ev == 0) = false := by rw [beq_eq_false_iff_ne]; exact he
    go_enter Tryz.func30, Tryz.ntmps30
    go_wp2_with (first
      | (go_at_call 59; (with_reducible refine (HRI.out _).mono ?_); rintro e w1 ⟨rfl, b1⟩)
      | (go_at_call 58; (with_reducible refine (HCA.out _ (HH.out.off (Off.of_below b1) (fun _ _ h => h))).mono ?_); rintro e w2 ⟨rfl, hR2, o2⟩))
    go_ret
    exact ⟨rfl, Rs.call (F := fun k => k = X) ((Rs.refl HH.out).below b1) (hR2.mono (fun _ h => .inl h)) (fun x hx => .inl (by rw [hx]; exact HH.out.tx)) o2⟩
end Go.Proofs.YtbodkjifpmencaaGreat
namespace Go.Proofs.YtbodkjifpmencaaGreat
open Go.RowKit
open Go.Lib

theorem cells2_set {α : Type} (f g : α → Value) (x : α) : ∀ (l : List α) (k : Nat), k < l.length → ((l.set k x).flatMap fun x => [f x, g x]) = (((l.flatMap fun x => [f x, g x]).set (k * 2) (f x)).set (k * 2 + 1) (g x))
  | c :: r, 0, _ => rfl
  | c :: r, k + 1, h => by
    have ih := cells2_set f g x r k (by simpa using h)
    have x0 : (k + 1) * 2 = k * 2 + 1 + 1 := by omega
    rw [List.set_cons_succ, List.flatMap_cons, List.flatMap_cons, ih, x0]
    rfl
theorem cells2_len {α : Type} (f g : α → Value) (l : List α) : (l.flatMap fun x => [f x, g x]).length = l.length * 2 := by
  induction l with
  | nil => rfl
  | cons c r ih => rw [List.flatMap_cons, List.length_append, ih]; simp; omega
theorem cells2_set0 {α : Type} (f g : α → Value) (x : α) (l : List α) (k : Nat) (h : k < l.length) (hg : g l[k] = g x) : ((l.set k x).flatMap fun x => [f x, g x]) = ((l.flatMap fun x => [f x, g x]).set (k * 2) (f x)) := by
  rw [cells2_set f g x l k h]
  have h1 := (cells2_at f g l k h).2
  have hl : k * 2 + 1 < ((l.flatMap fun x => [f x, g x]).set (k * 2) (f x)).length := by rw [List.length_set, cells2_len]; omega
  have h2 : ((l.flatMap fun x => [f x, g x]).set (k * 2) (f x))[k * 2 + 1] = g x := by
    rw [List.getElem_set_ne (by omega)]
    rw [List.getElem?_eq_getElem (by rw [cells2_len]; omega)] at h1
    rw [← hg]
    exact Option.some.inj h1
  conv => lhs; rw [← h2]
  exact List.set_getElem_self hl
theorem cells2_set1 {α : Type} (f g : α → Value) (x : α) (l : List α) (k : Nat) (h : k < l.length) (hf : f l[k] = f x) : ((l.set k x).flatMap fun x => [f x, g x]) = ((l.flatMap fun x => [f x, g x]).set (k * 2 + 1) (g x)) := by
  rw [cells2_set f g x l k h]
  have h1 := (cells2_at f g l k h).1
  have hl : k * 2 < (l.flatMap fun x => [f x, g x]).length := by rw [cells2_len]; omega
  have h2 : (l.flatMap fun x => [f x, g x])[k * 2] = f x := by
    rw [List.getElem?_eq_getElem hl] at h1
    rw [← hf]
    exact Option.some.inj h1
  congr 1
  conv => lhs; rw [← h2]
  exact List.set_getElem_self hl
theorem RD.setBodies {T : Nat → Prop} {X : Nat} {G : RLay} {r : R} {w w' : World} (H : RD T X G r w) (ho : Off (fun b => b = X ∨ G.bv.ownBlock = some b) w w') (v : Value) (l : List RB2) (hv : w'.ownsRow 0 TBd 2 v l.length (cellsRB l)) (hT : ∀ b, v.ownBlock = some b → T b) (hd : Blk X (.cells (rcells { G with bv := v } { r with bodies := l }) TDk (0, 0)) w') : RD T X { G with bv := v } { r with bodies := l } w' := by
  have kx : kindAt w X = some (some TDk) := H.disk.kind
  have ne : ∀ {e : TypeId} {n size : Nat} {v : Value} {xs : List Value}, w.ownsRow 0 e size v n xs → e ≠ TDk → e ≠ TBd → ∀ b, v.ownBlock = some b → ¬ (b = X ∨ G.bv.ownBlock = some b) := fun h he he2 b hb hx => by
    rcases hx with hx | hx
    · exact ne_kind (row_kind h hb) kx (by intro e2; exact he (Option.some.inj e2)) hx
    · exact ne_kind (row_kind h hb) (row_kind H.bods hx) (by intro e2; exact he2 (Option.some.inj e2)) rfl
  refine ⟨hd, H.tx, hv, hT, own_off H.nams ho (ne H.nams (by decide) (by decide)), H.tn, own_off H.kept ho (ne H.kept (by decide) (by decide)), H.tk, H.chn, own_off H.chg ho (ne H.chg (by decide) (by decide)), H.tc, fun j hj => ?_⟩
  obtain ⟨A, c, e, h⟩ := H.each j hj
  refine ⟨A, c, e, h.off ho (fun b _ hk hx => ?_)⟩
  rcases hx with hx | hx
  · exact ne_kind hk kx (by decide) hx
  · exact ne_kind hk (row_kind H.bods hx) (by decide) rfl
/-- A store into a body's kept bytes. -/
theorem RD.storeKept {T : Nat → Prop} {X : Nat} {G : RLay} {r : R} {w : World} (H : RD T X G r w) {k b nb cb : Nat} (hk : k < r.bodies.length) (hv : G.bv = .slice (some ⟨b, 0, none⟩) nb cb) (hnb : r.bodies.length = nb) (y : Bs) : RD T X G { r with bodies := r.bodies.set k ⟨(rbody r k).now, y⟩ } (w.setCell ⟨b, k * 2 + 1, none⟩ (.string (bs y))) ∧ Off (fun x => x = b) w (w.setCell ⟨b, k * 2 + 1, none⟩ (.string (bs y))) ∧ T b := by
  subst hnb
  have hb := H.bods
  rw [hv] at hb
  obtain ⟨h1, h2⟩ := World.ownsRow.stored hb (k * 2 + 1) (.string (bs y))
  have ho : Off (fun x => x = b) w (w.setCell ⟨b, k * 2 + 1, none⟩ (.string (bs y))) := (Off.of_grown h2).mono (fun _ h => (Option.some.inj h).symm)
  have hown : G.bv.ownBlock = some b := by rw [hv]; rfl
  refine ⟨?_, ho, H.tb b hown⟩
  have hbX : b ≠ X := ne_kind (row_kind H.bods hown) H.disk.kind (show (some TBd : Option TypeId) ≠ some TDk by decide)
  have h3 := H.setBodies (ho.mono (fun x hx => .inr (by rw [hx]; exact hown))) G.bv (r.bodies.set k ⟨(rbody r k).now, y⟩) ?_ H.tb (ho.blk H.disk (Ne.symm hbX))
  · exact h3
  · rw [List.length_set]
    have e : cellsRB (r.bodies.set k ⟨(rbody r k).now, y⟩) = (cellsRB r.bodies).set (k * 2 + 1) (.string (bs y)) := cells2_set1 bNow bKept ⟨(rbody r k).now, y⟩ r.bodies k hk (by rw [rbody_at' hk]; rfl)
    rw [e, hv]
    exact h1
theorem RD.storeNow {T : Nat → Prop} {X : Nat} {G : RLay} {r : R} {w : World} (H : RD T X G r w) {k b nb cb : Nat} (hk : k < r.bodies.length) (hv : G.bv = .slice (some ⟨b, 0, none⟩) nb cb) (hnb : r.bodies.length = nb) (y : Bs) : RD T X G { r with bodies := r.bodies.set k ⟨y, (rbody r k).kept⟩ } (w.setCell ⟨b, k * 2, none⟩ (.string (bs y))) ∧ Off (fun x => x = b) w (w.setCell ⟨b, k * 2, none⟩ (.string (bs y))) ∧ T b := by
  subst hnb
  have hb := H.bods
  rw [hv] at hb
  obtain ⟨h1, h2⟩ := World.ownsRow.stored hb (k * 2) (.string (bs y))
  have ho : Off (fun x => x = b) w (w.setCell ⟨b, k * 2, none⟩ (.string (bs y))) := (Off.of_grown h2).mono (fun _ h => (Option.some.inj h).symm)
  have hown : G.bv.ownBlock = some b := by rw [hv]; rfl
  refine ⟨?_, ho, H.tb b hown⟩
  have hbX : b ≠ X := ne_kind (row_kind H.bods hown) H.disk.kind (show (some TBd : Option TypeId) ≠ some TDk by decide)
  have h3 := H.setBodies (ho.mono (fun x hx => .inr (by rw [hx]; exact hown))) G.bv (r.bodies.set k ⟨y, (rbody r k).kept⟩) ?_ H.tb (ho.blk H.disk (Ne.symm hbX))
  · exact h3
  · rw [List.length_set]
    have e : cellsRB (r.bodies.set k ⟨y, (rbody r k).kept⟩) = (cellsRB r.bodies).set (k * 2) (.string (bs y)) := cells2_set0 bNow bKept ⟨y, (rbody r k).kept⟩ r.bodies k hk (by rw [rbody_at' hk]; rfl)
    rw [e, hv]
    exact h1
end Go.Proofs.YtbodkjifpmencaaGreat
namespace Go.Proofs.YtbodkjifpmencaaGreat
open Go.RowKit
open Go.Lib

theorem Rs.drew {T : Nat → Prop} {X : Nat} {r : R} {w w' : World} (h : Rs T X r w w') : Rs T X r w w'.drew := by
  obtain ⟨⟨G, hG⟩, ho⟩ := h
  exact ⟨⟨G, (hG.off ((Off.refl (fun _ => False) w').drew) (fun _ _ h => h)).mono (fun _ x => x)⟩, ho.drew⟩
theorem own_free {w : World} {base e size n n' g cap : Nat} {xs : List Value} (h : w.ownsRow base e size (.slice (some ⟨g, 0, none⟩) n cap) n' xs) (j : Nat) : w.frozen? ⟨g, j, none⟩ = false := by
  rcases h.2 with ⟨h', _⟩ | ⟨g', cap', cur, h', hb, hg, _⟩
  · simp at h'
  · simp only [Value.slice.injEq, Option.some.injEq, Addr.mk.injEq, and_true] at h'
    obtain ⟨rfl, _⟩ := h'
    exact Blk.free (show Blk g (.cells cur e (0, 0)) w from hg) j
set_option maxRecDepth 100000 in
set_option maxHeartbeats 2000000 in
theorem rsync_any {T : Nat → Prop} {X : Nat} {G : RLay} {r : R} {w : World} (H : RD T X G r w) (hT : ∀ b, T b → b < w.heap.size) (K : ROk r) (p : Bs) (hp : p.length ≤ 1000) :
    Calls Tryz.prog 31 #[.pointer (some ⟨X, 0, none⟩), .string (bs p)] w fun e w' => e = .returned (.int .i64 (syncR r p).1) ∧ Rs T X (syncR r p).2 w w' := by
  obtain ⟨b, hb⟩ : ∃ b, rightL p = b := ⟨_, rfl⟩
  obtain ⟨ev, r1, hc⟩ : ∃ e r1, callR r b = (e, r1) := ⟨_, _, rfl⟩
  have hsame := callR_same r b
  rw [hc] at hsame
  dsimp only at hsame
  have hri : ∀ W, Calls Tryz.prog 59 #[.string (bs p)] W fun e w' => e = .returned (.bool b) ∧ Below W.heap.size W w' := fun W => by
    have := rright_any (bs p) W (by rw [bs_size]; omega)
    rw [bs_list, hb] at this
    exact this
  have HRI := Lib.hid hri
  have HCA : Hid (∀ W, RD T X G r W → Calls Tryz.prog 58 #[.pointer (some ⟨X, 0, none⟩), .bool b] W fun e w' => e = .returned (.int .i64 ev) ∧ RD T X G r1 w' ∧ Off (fun k => k = X) W w') := Lib.hid (fun W hW => by
    have := rcall_any hW b K.c0 K.c1
    rw [hc] at this
    exact this)
  have HH := Lib.hid H
  have HT := Lib.hid hT
  by_cases he : ev = 0
  · subst he
    obtain ⟨nm, hnm⟩ : ∃ n, r1.names.length = n := ⟨_, rfl⟩
    have hnm2 : nm ≤ 800000 := by rw [← hnm, hsame.2.2.1]; exact K.nn
    have HNM := Lib.hid hnm
    obtain ⟨z, hz⟩ : ∃ z, intO (look r1.names p) = z := ⟨_, rfl⟩
    have HAT : Hid (∀ W A c, RN W A r1.names → Calls Tryz.prog 36 #[.slice A nm c, .string (bs p)] W fun e w' => e = .returned (.int .i64 z) ∧ Below W.heap.size W w') := Lib.hid (fun W A c hR => by
      have := rat_any r1.names A c p nm hnm W hR (by omega) (by omega)
      rw [hz] at this
      exact this)
    cases hl : look r1.names p with
    | none =>
      have hq : syncR r p = (60, r1) := by unfold syncR; rw [hb, hc]; dsimp only; rw [if_pos rfl, hl]
      rw [hq]
      rw [hl] at hz
      obtain rfl : -1 = z := hz
      clear hri H hT hc hb hnm hl
      go_enter Tryz.func31, Tryz.ntmps31
      go_wp2_with (first
        | (go_at_call 59; (with_reducible refine (HRI.out _).mono ?_); rintro e w1 ⟨rfl, b1⟩)
        | (go_at_call 58; (with_reducible refine (HCA.out _ (HH.out.off (Off.of_below b1) (fun _ _ h => h))).mono ?_); rintro e w2 ⟨rfl, hR2, o2⟩
           obtain ⟨An, cn, hn1, hn2⟩ := hR2.names
           have c2 : w2.cell? ⟨X, 2, none⟩ = some (.slice An nm cn) := (hR2.disk.cell 2).trans (by rw [← HNM.out, ← hn1]; rfl))
        | (go_at_call 36; (with_reducible refine (HAT.out _ _ _ hn2).mono ?_); rintro e w3 ⟨rfl, b3⟩))
      go_ret
      exact ⟨rfl, Rs.below (Rs.call (F := fun k => k = X) ((Rs.refl HH.out).below b1) (hR2.mono (fun _ h => .inl h)) (fun x hx => .inl (by rw [hx]; exact HH.out.tx)) o2) b3⟩
    | some k =>
      have hq : syncR r p = (0, { r1 with bodies := r1.bodies.set k ⟨(rbody r1 k).now, (rbody r1 k).now⟩ }) := by unfold syncR; rw [hb, hc]; dsimp only; rw [if_pos rfl, hl]
      rw [hq]
      rw [hl] at hz
      obtain rfl : (k : Int) = z := hz
      have hkb : k < r1.bodies.length := by rw [hsame.1]; have hm := look_mem hl; rw [hsame.2.2.1] at hm; exact K.ix _ hm
      obtain ⟨nb, hnb⟩ : ∃ n, r1.bodies.length = n := ⟨_, rfl⟩
      have HNB := Lib.hid hnb
      have HKB := Lib.hid hkb
      have hknb : k < nb := by rw [← hnb]; exact hkb
      have i0 : (0 : Int) ≤ (k : Int) := by omega
      have i1 : (k : Int) < (nb : Int) := by omega
      obtain ⟨D, hD⟩ : ∃ D, rbody r1 k = D := ⟨_, rfl⟩
      have HD := Lib.hid hD
      rw [hD]
      clear hri H hT hc hb hnm hl hD hkb hnb
      go_enter Tryz.func31, Tryz.ntmps31
      go_wp2_with (first
        | (go_at_call 59; (with_reducible refine (HRI.out _).mono ?_); rintro e w1 ⟨rfl, b1⟩)
        | (go_at_call 58; (with_reducible refine (HCA.out _ (HH.out.off (Off.of_below b1) (fun _ _ h => h))).mono ?_); rintro e w2 ⟨rfl, hR2, o2⟩
           obtain ⟨An, cn, hn1, hn2⟩ := hR2.names
           have c2 : w2.cell? ⟨X, 2, none⟩ = some (.slice An nm cn) := (hR2.disk.cell 2).trans (by rw [← HNM.out, ← hn1]; rfl)
           have hs2 := Rs.call (F := fun k => k = X) ((Rs.refl HH.out).below b1) (hR2.mono (fun _ h => .inl h)) (fun x hx => .inl (by rw [hx]; exact HH.out.tx)) o2)
        | (go_at_call 36; (with_reducible refine (HAT.out _ _ _ hn2).mono ?_); rintro e w3 ⟨rfl, b3⟩))
      obtain ⟨G3, hR3⟩ := (hs2.below b3).1
      obtain ⟨Ab, cb, hb1, hb2⟩ := hR3.bodies
      obtain ⟨b', hAe, _, hcc⟩ := hb2 (by have := HKB.out; omega)
      have y0 := (hcc k HKB.out).1
      have y1 := (hcc k HKB.out).2
      subst hAe
      rw [HNB.out] at hb1
      rw [rbody_at' HKB.out, HD.out, Nat.zero_add] at y0
      rw [Nat.zero_add] at y1
      change w3.cell? ⟨b', k * 2, none⟩ = some (.string (bs D.now)) at y0
      have x1 : w3.cell? ⟨X, 1, none⟩ = some (.slice (some ⟨b', 0, none⟩) nb cb) := (hR3.disk.cell 1).trans (by rw [← hb1]; rfl)
      have yf : ∀ j, w3.frozen? ⟨b', j, none⟩ = false := fun j => own_free (by have := hR3.bods; rw [hb1] at this; exact this) j
      have HST := Lib.hid (hR3.storeKept HKB.out hb1 HNB.out D.now)
      rw [HD.out] at HST
      have HS3 := Lib.hid (hs2.below b3)
      clear hb1 hb2 hcc hR3 hs2 hR2 hn1 hn2 o2 b3
      have x1' : w3.drew.cell? ⟨X, 1, none⟩ = some (.slice (some ⟨b', 0, none⟩) nb cb) := x1
      have y0' : w3.drew.cell? ⟨b', k * 2, none⟩ = some (.string (bs D.now)) := y0
      have yf' : ∀ j, w3.drew.frozen? ⟨b', j, none⟩ = false := yf
      obtain ⟨KV, y2⟩ : ∃ v, w3.cell? ⟨b', k * 2 + 1, none⟩ = some (.string v) := ⟨_, y1⟩
      have y1' : w3.drew.cell? ⟨b', k * 2 + 1, none⟩ = some (.string KV) := y2
      clear x1 y0 yf y1 y2
      go_region_with fail
      all_goals go_wp2
      all_goals go_ret
      all_goals exact ⟨rfl, Rs.drew (Rs.call (F := fun x => x = b') HS3.out HST.out.1 (fun x hx => by rw [hx]; exact HST.out.2.2) HST.out.2.1)⟩
  · have hq : syncR r p = (ev, r1) := by unfold syncR; rw [hb, hc]; dsimp only; rw [if_neg he]
    rw [hq]
    clear hri H hT hc hb
    have he2 : (ev == 0) = false := by rw [beq_eq_false_iff_ne]; exact he
    go_enter Tryz.func31, Tryz.ntmps31
    go_wp2_with (first
      | (go_at_call 59; (with_reducible refine (HRI.out _).mono ?_); rintro e w1 ⟨rfl, b1⟩)
      | (go_at_call 58; (with_reducible refine (HCA.out _ (HH.out.off (Off.of_below b1) (fun _ _ h => h))).mono ?_); rintro e w2 ⟨rfl, hR2, o2⟩))
    go_ret
    exact ⟨rfl, Rs.call (F := fun k => k = X) ((Rs.refl HH.out).below b1) (hR2.mono (fun _ h => .inl h)) (fun x hx => .inl (by rw [hx]; exact HH.out.tx)) o2⟩
end Go.Proofs.YtbodkjifpmencaaGreat
namespace Go.Proofs.YtbodkjifpmencaaGreat
open Go.RowKit
open Go.Lib

set_option maxRecDepth 100000 in
set_option maxHeartbeats 2000000 in
theorem rappend_any {T : Nat → Prop} {X : Nat} {G : RLay} {r : R} {w : World} (H : RD T X G r w) (hT : ∀ b, T b → b < w.heap.size) (K : ROk r) (p bb : Bs) (hp : p.length ≤ 1000) (hbb : bb.length ≤ 10000000) (hnow : ∀ k, (rbody r k).now.length ≤ 1000000000) :
    Calls Tryz.prog 26 #[.pointer (some ⟨X, 0, none⟩), .string (bs p), .string (bs bb)] w fun e w' => e = .returned (.int .i64 (appendR r p bb).1) ∧ Rs T X (appendR r p bb).2 w w' := by
  obtain ⟨b, hb⟩ : ∃ b, rightL p = b := ⟨_, rfl⟩
  obtain ⟨ev, r1, hc⟩ : ∃ e r1, callR r b = (e, r1) := ⟨_, _, rfl⟩
  have hsame := callR_same r b
  rw [hc] at hsame
  dsimp only at hsame
  have hri : ∀ W, Calls Tryz.prog 59 #[.string (bs p)] W fun e w' => e = .returned (.bool b) ∧ Below W.heap.size W w' := fun W => by
    have := rright_any (bs p) W (by rw [bs_size]; omega)
    rw [bs_list, hb] at this
    exact this
  have HRI := Lib.hid hri
  have HCA : Hid (∀ W, RD T X G r W → Calls Tryz.prog 58 #[.pointer (some ⟨X, 0, none⟩), .bool b] W fun e w' => e = .returned (.int .i64 ev) ∧ RD T X G r1 w' ∧ Off (fun k => k = X) W w') := Lib.hid (fun W hW => by
    have := rcall_any hW b K.c0 K.c1
    rw [hc] at this
    exact this)
  have HH := Lib.hid H
  have HT := Lib.hid hT
  by_cases he : ev = 0
  · subst he
    obtain ⟨nm, hnm⟩ : ∃ n, r1.names.length = n := ⟨_, rfl⟩
    have hnm2 : nm ≤ 800000 := by rw [← hnm, hsame.2.2.1]; exact K.nn
    have HNM := Lib.hid hnm
    obtain ⟨z, hz⟩ : ∃ z, intO (look r1.names p) = z := ⟨_, rfl⟩
    have HAT : Hid (∀ W A c, RN W A r1.names → Calls Tryz.prog 36 #[.slice A nm c, .string (bs p)] W fun e w' => e = .returned (.int .i64 z) ∧ Below W.heap.size W w') := Lib.hid (fun W A c hR => by
      have := rat_any r1.names A c p nm hnm W hR (by omega) (by omega)
      rw [hz] at this
      exact this)
    cases hl : look r1.names p with
    | none =>
      have hq : appendR r p bb = (60, r1) := by unfold appendR; rw [hb, hc]; dsimp only; rw [if_pos rfl, hl]
      rw [hq]
      rw [hl] at hz
      obtain rfl : -1 = z := hz
      clear hri H hT hc hb hnm hl
      go_enter Tryz.func26, Tryz.ntmps26
      go_wp2_with (first
        | (go_at_call 59; (with_reducible refine (HRI.out _).mono ?_); rintro e w1 ⟨rfl, b1⟩)
        | (go_at_call 58; (with_reducible refine (HCA.out _ (HH.out.off (Off.of_below b1) (fun _ _ h => h))).mono ?_); rintro e w2 ⟨rfl, hR2, o2⟩
           obtain ⟨An, cn, hn1, hn2⟩ := hR2.names
           have c2 : w2.cell? ⟨X, 2, none⟩ = some (.slice An nm cn) := (hR2.disk.cell 2).trans (by rw [← HNM.out, ← hn1]; rfl))
        | (go_at_call 36; (with_reducible refine (HAT.out _ _ _ hn2).mono ?_); rintro e w3 ⟨rfl, b3⟩))
      go_ret
      exact ⟨rfl, Rs.below (Rs.call (F := fun k => k = X) ((Rs.refl HH.out).below b1) (hR2.mono (fun _ h => .inl h)) (fun x hx => .inl (by rw [hx]; exact HH.out.tx)) o2) b3⟩
    | some k =>
      rw [hl] at hz
      obtain rfl : (k : Int) = z := hz
      have hkb : k < r1.bodies.length := by rw [hsame.1]; have hm := look_mem hl; rw [hsame.2.2.1] at hm; exact K.ix _ hm
      obtain ⟨nb, hnb⟩ : ∃ n, r1.bodies.length = n := ⟨_, rfl⟩
      have HNB := Lib.hid hnb
      have HKB := Lib.hid hkb
      have hknb : k < nb := by rw [← hnb]; exact hkb
      have i0 : (0 : Int) ≤ (k : Int) := by omega
      have i1 : (k : Int) < (nb : Int) := by omega
      obtain ⟨u, hu⟩ : ∃ u, usedR r1 = u := ⟨_, rfl⟩
      have hur : usedR r1 = usedR r := by unfold usedR rbody; rw [hsame.1, hsame.2.2.1]
      have hu2 : u ≤ 1000000000000000 := by rw [← hu, hur]; exact K.us
      obtain ⟨rm, hrm⟩ : ∃ z, r1.room = z := ⟨_, rfl⟩
      have HUS : Hid (∀ W, Rs T X r1 w W → Calls Tryz.prog 13 #[.pointer (some ⟨X, 0, none⟩)] W fun e w' => e = .returned (.int .i64 u) ∧ Below W.heap.size W w') := Lib.hid (fun W hW => by
        obtain ⟨⟨G', hG'⟩, _⟩ := hW
        have := rused_any hG' (by rw [hsame.2.2.1]; have := K.nn; omega) (by rw [hsame.2.2.1, hsame.1]; exact K.ix) (by rw [hu]; omega)
        rw [hu] at this
        exact this)
      obtain ⟨D, hD⟩ : ∃ D, rbody r1 k = D := ⟨_, rfl⟩
      have HD := Lib.hid hD
      have hDl : (bs D.now).size ≤ 1000000000 := by rw [bs_size, ← hD]; unfold rbody; rw [hsame.1]; exact hnow k
      have hbl : (bs bb).size = bb.length := bs_size bb
      have HRM := Lib.hid hrm
      have hwr : IntKind.i64.wrap ((u : Int) + (bb.length : Int)) = (u : Int) + (bb.length : Int) := IntWalk.i64_in _ (by omega)
      by_cases hroom : (u : Int) + bb.length ≤ rm
      · have hq : appendR r p bb = (0, { r1 with bodies := r1.bodies.set k ⟨(rbody r1 k).now ++ bb, (rbody r1 k).kept⟩ }) := by unfold appendR; rw [hb, hc]; dsimp only; rw [if_pos rfl, hl]; dsimp only; rw [hu, hrm, if_pos hroom]
        rw [hq, hD]
        have hba : bs (D.now ++ bb) = bs D.now ++ bs bb := by unfold bs; apply ByteArray.ext; simp
        clear hri H hT hc hb hnm hl hD hkb hnb hu hrm hsame hur
        go_enter Tryz.func26, Tryz.ntmps26
        go_wp2_with (first
          | (go_at_call 59; (with_reducible refine (HRI.out _).mono ?_); rintro e w1 ⟨rfl, b1⟩)
          | (go_at_call 58; (with_reducible refine (HCA.out _ (HH.out.off (Off.of_below b1) (fun _ _ h => h))).mono ?_); rintro e w2 ⟨rfl, hR2, o2⟩
             obtain ⟨An, cn, hn1, hn2⟩ := hR2.names
             have c2 : w2.cell? ⟨X, 2, none⟩ = some (.slice An nm cn) := (hR2.disk.cell 2).trans (by rw [← HNM.out, ← hn1]; rfl)
             have hs2 := Rs.call (F := fun k => k = X) ((Rs.refl HH.out).below b1) (hR2.mono (fun _ h => .inl h)) (fun x hx => .inl (by rw [hx]; exact HH.out.tx)) o2)
          | (go_at_call 36; (with_reducible refine (HAT.out _ _ _ hn2).mono ?_); rintro e w3 ⟨rfl, b3⟩))
        have HS3 := Lib.hid (hs2.below b3)
        have HX3 : Hid (X < w3.drew.heap.size ∧ w3.drew.cell? ⟨X, 0, none⟩ = some (.int .i64 rm)) := by
          obtain ⟨⟨G3, hR3⟩, _⟩ := HS3.out
          exact Lib.hid ⟨hR3.disk.lt, (hR3.disk.cell 0).trans (by rw [← HRM.out]; rfl)⟩
        have x0' := HX3.out.2
        clear hs2 hR2 hn1 hn2 o2 b3
        go_region_with (first
          | (go_at_call 13; (with_reducible refine (HUS.out _ HS3.out.drew).mono ?_); rintro e w4 ⟨rfl, b4⟩
             have x0 := (b4.cell (p := ⟨X, 0, none⟩) HX3.out.1).trans HX3.out.2
             have hs4 := Rs.below HS3.out.drew b4
             obtain ⟨G4, hR4⟩ := hs4.1
             obtain ⟨Ab, cb, hb1, hb2⟩ := hR4.bodies
             obtain ⟨b', hAe, _, hcc⟩ := hb2 (by have := HKB.out; omega)
             have y0 := (hcc k HKB.out).1
             subst hAe
             rw [HNB.out] at hb1
             rw [rbody_at' HKB.out, HD.out, Nat.zero_add] at y0
             change w4.cell? ⟨b', k * 2, none⟩ = some (.string (bs D.now)) at y0
             have x1 : w4.cell? ⟨X, 1, none⟩ = some (.slice (some ⟨b', 0, none⟩) nb cb) := (hR4.disk.cell 1).trans (by rw [← hb1]; rfl)
             have yf : ∀ j, w4.frozen? ⟨b', j, none⟩ = false := fun j => own_free (by have := hR4.bods; rw [hb1] at this; exact this) j
             have HST := Lib.hid (hR4.storeNow HKB.out hb1 HNB.out (D.now ++ bb))
             rw [HD.out, hba] at HST
             have HS4 := Lib.hid hs4
             clear hcc hb1 hb2 hR4 hs4))
        all_goals go_wp2
        all_goals go_ret
        all_goals exact ⟨rfl, Rs.call (F := fun x => x = b') HS4.out HST.out.1 (fun x hx => by rw [hx]; exact HST.out.2.2) HST.out.2.1⟩
      · have hq : appendR r p bb = (61, r1) := by unfold appendR; rw [hb, hc]; dsimp only; rw [if_pos rfl, hl]; dsimp only; rw [hu, hrm, if_neg hroom]
        rw [hq]
        have hroom' : rm < (u : Int) + bb.length := by omega
        have hroomt : decide (rm < (u : Int) + bb.length) = true := decide_eq_true hroom'
        clear hri H hT hc hb hnm hl hD hkb hnb hu hrm hsame hur
        go_enter Tryz.func26, Tryz.ntmps26
        go_wp2_with (first
          | (go_at_call 59; (with_reducible refine (HRI.out _).mono ?_); rintro e w1 ⟨rfl, b1⟩)
          | (go_at_call 58; (with_reducible refine (HCA.out _ (HH.out.off (Off.of_below b1) (fun _ _ h => h))).mono ?_); rintro e w2 ⟨rfl, hR2, o2⟩
             obtain ⟨An, cn, hn1, hn2⟩ := hR2.names
             have c2 : w2.cell? ⟨X, 2, none⟩ = some (.slice An nm cn) := (hR2.disk.cell 2).trans (by rw [← HNM.out, ← hn1]; rfl)
             have hs2 := Rs.call (F := fun k => k = X) ((Rs.refl HH.out).below b1) (hR2.mono (fun _ h => .inl h)) (fun x hx => .inl (by rw [hx]; exact HH.out.tx)) o2)
          | (go_at_call 36; (with_reducible refine (HAT.out _ _ _ hn2).mono ?_); rintro e w3 ⟨rfl, b3⟩))
        have HS3 := Lib.hid (hs2.below b3)
        have HX3 : Hid (X < w3.drew.heap.size ∧ w3.drew.cell? ⟨X, 0, none⟩ = some (.int .i64 rm)) := by
          obtain ⟨⟨G3, hR3⟩, _⟩ := HS3.out
          exact Lib.hid ⟨hR3.disk.lt, (hR3.disk.cell 0).trans (by rw [← HRM.out]; rfl)⟩
        have x0' := HX3.out.2
        clear hs2 hR2 hn1 hn2 o2 b3
        go_region_with (first
          | (go_at_call 13; (with_reducible refine (HUS.out _ HS3.out.drew).mono ?_); rintro e w4 ⟨rfl, b4⟩
             have x0 := (b4.cell (p := ⟨X, 0, none⟩) HX3.out.1).trans HX3.out.2))
        all_goals go_wp2
        all_goals first
          | (exfalso; omega)
          | (go_ret; exact ⟨rfl, Rs.below HS3.out.drew b4⟩)
  · have hq : appendR r p bb = (ev, r1) := by unfold appendR; rw [hb, hc]; dsimp only; rw [if_neg he]
    rw [hq]
    clear hri H hT hc hb
    have he2 : (ev == 0) = false := by rw [beq_eq_false_iff_ne]; exact he
    go_enter Tryz.func26, Tryz.ntmps26
    go_wp2_with (first
      | (go_at_call 59; (with_reducible refine (HRI.out _).mono ?_); rintro e w1 ⟨rfl, b1⟩)
      | (go_at_call 58; (with_reducible refine (HCA.out _ (HH.out.off (Off.of_below b1) (fun _ _ h => h))).mono ?_); rintro e w2 ⟨rfl, hR2, o2⟩))
    go_ret
    exact ⟨rfl, Rs.call (F := fun k => k = X) ((Rs.refl HH.out).below b1) (hR2.mono (fun _ h => .inl h)) (fun x hx => .inl (by rw [hx]; exact HH.out.tx)) o2⟩
end Go.Proofs.YtbodkjifpmencaaGreat
