/-
  The walk of the document's Write, on any disk. No conditions.
-/
import Derived.Test.YtbodkjifpmencaaGreatY22
namespace Go.Proofs.YtbodkjifpmencaaGreat
open Go.RowKit
open Go.Lib

theorem own_len {w : World} {base size n : Nat} {e : TypeId} {v : Value} {xs : List Value} (h : w.ownsRow base e size v n xs) : ∃ A c, v = .slice A n c := by
  rcases h.2 with ⟨rfl, hn⟩ | ⟨g, cap, cur, rfl, _⟩
  · exact ⟨none, 0, by rw [hn]⟩
  · exact ⟨_, _, rfl⟩
/-- The document's change of names, from a state of the disk on. -/
theorem rs_changeL {T : Nat → Prop} {X : Nat} {r : R} {w w5 : World} (h : Rs T X r w w5) (hT : ∀ b, T b → b < w.heap.size) (l : List (Bs × Option Nat)) (A : Option Addr) (c n : Nat) (hn : l.length = n) (hn2 : n ≤ 2) (hA : RCs w5 (More T w w5) A l) (hAX : ∀ b, aBlock A = some b → b ≠ X) (d : Bs) (hN : r.names.length ≤ 800000) (hC : r.changes.length ≤ 800000) :
    Calls Tryz.prog 60 #[.pointer (some ⟨X, 0, none⟩), .string (bs d), .slice A n c] w5 fun e w' => e = .returned (.tuple #[]) ∧ Rs T X (changeR r d l) w w' := by
  have h5 := h
  obtain ⟨⟨G5, hG5⟩, o5⟩ := h5
  refine (rchange_any hG5 (more_lt hT o5.size) d l A c n hn hn2 hA hAX (by omega) (by omega)).mono ?_
  rintro e w' ⟨rfl, ⟨G', hG'⟩, ho⟩
  refine ⟨rfl, Rs.more h hG' (fun b hb => ?_) ho⟩
  rcases hb with rfl | hb
  · exact hG5.tx
  · exact hG5.tc b hb
theorem rs_change2 {T : Nat → Prop} {X : Nat} {r : R} {w w4 w5 : World} (h : Rs T X r w w4) (hT : ∀ b, T b → b < w.heap.size) (p : Bs) (o : Option Nat) (d : Bs) (hN : r.names.length ≤ 800000) (hC : r.changes.length ≤ 800000) (hb : Below (w4.alloc (.cells #[.string (bs p), .int .i64 (intO o)] TN)).heap.size (w4.alloc (.cells #[.string (bs p), .int .i64 (intO o)] TN)) w5) :
    Calls Tryz.prog 60 #[.pointer (some ⟨X, 0, none⟩), .string (bs d), .slice (some ⟨w4.heap.size, 0, none⟩) 1 1] w5 fun e w' => e = .returned (.tuple #[]) ∧ Rs T X (changeR r d [(p, o)]) w w' := by
  have hba := (Below.refl w4.heap.size w4).alloc (Nat.le_refl _) (.cells #[.string (bs p), .int .i64 (intO o)] TN)
  have hX : X < w4.heap.size := by
    obtain ⟨⟨G4, hG4⟩, _⟩ := id h
    exact hG4.disk.lt
  refine rs_changeL ((h.below hba).below hb) hT [(p, o)] _ 1 1 rfl (by decide) (((rcs_one p o h.2.size).off (Off.of_below hb) (fun _ _ _ h => h)).mono (fun _ x => x.mono hb.size)) (fun b hb' => ?_) d hN hC
  have := Option.some.inj hb'
  dsimp only at this
  omega
/-- A body has been put behind the others. -/
theorem rs_addBody {T : Nat → Prop} {X : Nat} {r : R} {w w4 w6 : World} {G : RLay} {v : Value} (h : Rs T X r w w4) (hG : RD (More T w w4) X G r w4) (b : Bs) (o : Obj) (hg6 : (w4.alloc o).grownBy w6 G.bv.ownBlock) (hown : w6.ownsRow 0 TBd 2 v (r.bodies.length + 1) (cellsRB r.bodies ++ [.string (bs b), .string ⟨#[]⟩])) (hloc : v.ownBlock = G.bv.ownBlock ∨ v.ownBlock = some (w4.alloc o).heap.size) :
    Blk X (.cells (rcells G r) TDk (0, 0)) w6 ∧ Rs T X { r with bodies := r.bodies ++ [⟨b, []⟩] } w (w6.setCell ⟨X, 1, none⟩ v) := by
  have hba := (Below.refl w4.heap.size w4).alloc (Nat.le_refl _) o
  have o1 : Off (fun x => G.bv.ownBlock = some x) w4 w6 := ((Off.of_below hba).mono (fun _ h => h.elim)).trans (Off.of_grown hg6) (fun _ h => .inl h)
  have o2 : Off (fun x => x = X ∨ G.bv.ownBlock = some x) w4 (w6.setCell ⟨X, 1, none⟩ v) := (o1.mono (fun _ h => .inr h)).trans (off_set w6 X 1 v) (fun _ h => .inl (.inl h))
  have hs : w6.heap.size ≤ (w6.setCell ⟨X, 1, none⟩ v).heap.size := (off_set w6 X 1 v).size
  have hbX : G.bv.ownBlock ≠ some X := fun e => ne_kind (row_kind hG.bods e) hG.disk.kind (show (some TBd : Option TypeId) ≠ some TDk by decide) rfl
  have hXl := hG.disk.lt
  have hvX : ∀ x, v.ownBlock = some x → x ≠ X := fun x hx e => by
    subst e
    rcases hloc with h | h
    · exact hbX (h.symm.trans hx)
    · rw [h] at hx
      have h1 := Option.some.inj hx
      have h2 := hba.size
      omega
  have hd6 : Blk X (.cells (rcells G r) TDk (0, 0)) w6 := o1.blk hG.disk hbX
  have e1 : cellsRB (r.bodies ++ [⟨b, []⟩]) = cellsRB r.bodies ++ [.string (bs b), .string ⟨#[]⟩] := by
    unfold cellsRB
    rw [List.flatMap_append]
    rfl
  have hrow : (w6.setCell ⟨X, 1, none⟩ v).ownsRow 0 TBd 2 v (r.bodies ++ [(⟨b, []⟩ : RB2)]).length (cellsRB (r.bodies ++ [⟨b, []⟩])) := by
    rw [e1, List.length_append]
    exact own_off hown (off_set w6 X 1 v) hvX
  refine ⟨hd6, Rs.more h ((hG.mono (T' := More (More T w w4) w4 (w6.setCell ⟨X, 1, none⟩ v)) (fun x hx => .inl hx)).setBodies o2 v _ hrow (fun x hx => ?_) (hd6.set 1 v)) (fun x hx => ?_) o2⟩
  · have h1 := World.ownsRow.lt hown x hx
    rcases hloc with h' | h'
    · exact .inl (hG.tb x (h'.symm.trans hx))
    · rw [h'] at hx
      have h2 := Option.some.inj hx
      have h4 := hba.size
      exact .inr ⟨by omega, Nat.lt_of_lt_of_le h1.2 hs⟩
  · rcases hx with rfl | hx
    · exact hG.tx
    · exact hG.tb x hx
set_option maxRecDepth 100000 in
set_option maxHeartbeats 8000000 in
theorem rwrite_any {T : Nat → Prop} {X : Nat} {G : RLay} {r : R} {w : World} (H : RD T X G r w) (hT : ∀ b, T b → b < w.heap.size) (K : ROk r) (p bb : Bs) (hp : p.length ≤ 1000) (hbb : bb.length ≤ 10000000) (hnb1 : r.bodies.length ≤ 100000000) (hsu : ∀ k, look r.names p = some k → (rbody r k).now.length ≤ usedR r) :
    Calls Tryz.prog 25 #[.pointer (some ⟨X, 0, none⟩), .string (bs p), .string (bs bb)] w fun e w' => e = .returned (.int .i64 (writeR r p bb).1) ∧ Rs T X (writeR r p bb).2 w w' := by
  obtain ⟨i0, hi, hz0, hz1, hz2⟩ := info_parts Tryz.infoBody
  obtain ⟨b, hb⟩ : ∃ b, rightL p = b := ⟨_, rfl⟩
  obtain ⟨ev, r1, hc⟩ : ∃ e r1, callR r b = (e, r1) := ⟨_, _, rfl⟩
  have hsame := callR_same r b
  rw [hc] at hsame
  dsimp only at hsame
  have hri : ∀ W, Calls Tryz.prog 59 #[.string (bs p)] W fun e w' => e = .returned (.bool b) ∧ Below W.heap.size W w' := fun W => by
    have := rright_any (bs p) W (by rw [bs_size]; omega)
    rw [bs_list, hb] at this
    exact this
  have HRI := Lib.hid hri
  have HCA : Hid (∀ W, RD T X G r W → Calls Tryz.prog 58 #[.pointer (some ⟨X, 0, none⟩), .bool b] W fun e w' => e = .returned (.int .i64 ev) ∧ RD T X G r1 w' ∧ Off (fun k => k = X) W w') := Lib.hid (fun W hW => by
    have := rcall_any hW b K.c0 K.c1
    rw [hc] at this
    exact this)
  have HH := Lib.hid H
  have HT := Lib.hid hT
  by_cases he : ev = 0
  · subst he
    obtain ⟨nm, hnm⟩ : ∃ n, r1.names.length = n := ⟨_, rfl⟩
    have hnm2 : nm ≤ 800000 := by rw [← hnm, hsame.2.2.1]; exact K.nn
    have HNM := Lib.hid hnm
    obtain ⟨z, hz⟩ : ∃ z, intO (look r1.names p) = z := ⟨_, rfl⟩
    have HAT : Hid (∀ W A c, RN W A r1.names → Calls Tryz.prog 36 #[.slice A nm c, .string (bs p)] W fun e w' => e = .returned (.int .i64 z) ∧ Below W.heap.size W w') := Lib.hid (fun W A c hR => by
      have := rat_any r1.names A c p nm hnm W hR (by omega) (by omega)
      rw [hz] at this
      exact this)
    obtain ⟨nb, hnb⟩ : ∃ n, r1.bodies.length = n := ⟨_, rfl⟩
    have HNB := Lib.hid hnb
    have hnb2 : nb ≤ 100000000 := by rw [← hnb, hsame.1]; exact hnb1
    obtain ⟨u, hu⟩ : ∃ u, usedR r1 = u := ⟨_, rfl⟩
    have hur : usedR r1 = usedR r := by unfold usedR rbody; rw [hsame.1, hsame.2.2.1]
    have hu2 : u ≤ 1000000000000000 := by rw [← hu, hur]; exact K.us
    obtain ⟨rm, hrm⟩ : ∃ z, r1.room = z := ⟨_, rfl⟩
    have HRM := Lib.hid hrm
    have HUS : Hid (∀ W, Rs T X r1 w W → Calls Tryz.prog 13 #[.pointer (some ⟨X, 0, none⟩)] W fun e w' => e = .returned (.int .i64 u) ∧ Below W.heap.size W w') := Lib.hid (fun W hW => by
      obtain ⟨⟨G', hG'⟩, _⟩ := hW
      have := rused_any hG' (by rw [hsame.2.2.1]; have := K.nn; omega) (by rw [hsame.2.2.1, hsame.1]; exact K.ix) (by rw [hu]; omega)
      rw [hu] at this
      exact this)
    have hbl : (bs bb).size = bb.length := bs_size bb
    obtain ⟨D, hD⟩ : ∃ D, bs (dirL p) = D := ⟨_, rfl⟩
    have HDI : Hid (∀ W, Calls Tryz.prog 41 #[.string (bs p)] W fun e w' => e = .returned (.string D) ∧ Below W.heap.size W w') := Lib.hid (fun W => by
      have := rdir_any (bs p) W (by rw [bs_size]; omega)
      rw [bs_list, split_dir, hD] at this
      exact this)
    obtain ⟨zb, hzb⟩ : ∃ z, (nb : Int) = z := ⟨_, rfl⟩
    have hn1 : IntKind.i64.wrap (((nb + 1 : Nat) : Int) - 1) = zb := by rw [← hzb, IntWalk.i64_in _ (by omega)]; omega
    obtain ⟨n1, hn1e⟩ : ∃ n, nb + 1 = n := ⟨_, rfl⟩
    rw [hn1e] at hn1
    have HN1 := Lib.hid hn1e
    obtain ⟨r2, hr2⟩ : ∃ r2, ({ r1 with bodies := r1.bodies ++ [⟨bb, []⟩] } : R) = r2 := ⟨_, rfl⟩
    obtain ⟨r3, hr3⟩ : ∃ r3, changeR r2 (dirL p) [(p, some nb)] = r3 := ⟨_, rfl⟩
    have HR2 := Lib.hid hr2
    have hr2n : r2.names.length ≤ 800000 := by rw [← hr2]; show r1.names.length ≤ _; rw [hsame.2.2.1]; exact K.nn
    have hr2c : r2.changes.length ≤ 800000 := by rw [← hr2]; show r1.changes.length ≤ _; rw [hsame.2.1]; exact K.nc
    have HCG : Hid (∀ W W5, Rs T X r2 w W → Below (W.alloc (.cells #[.string (bs p), .int .i64 zb] TN)).heap.size (W.alloc (.cells #[.string (bs p), .int .i64 zb] TN)) W5 → Calls Tryz.prog 60 #[.pointer (some ⟨X, 0, none⟩), .string D, .slice (some ⟨W.heap.size, 0, none⟩) 1 1] W5 fun e w' => e = .returned (.tuple #[]) ∧ Rs T X r3 w w') := Lib.hid (fun W W5 hW h5 => by
      rw [← hD, ← hr3]
      refine rs_change2 hW HT.out p (some nb) (dirL p) hr2n hr2c ?_
      unfold intO
      dsimp only
      rw [hzb]
      exact h5)
    have HBD : Hid (∀ W W6 v G', RD (More T w W) X G' r1 W → Rs T X r1 w W → (W.alloc (.cells #[.string (bs bb), .string ⟨#[]⟩] TBd)).grownBy W6 G'.bv.ownBlock → W6.ownsRow 0 TBd 2 v (nb + 1) (cellsRB r1.bodies ++ [.string (bs bb), .string ⟨#[]⟩]) → (v.ownBlock = G'.bv.ownBlock ∨ v.ownBlock = some (W.alloc (.cells #[.string (bs bb), .string ⟨#[]⟩] TBd)).heap.size) → Blk X (.cells (rcells G' r1) TDk (0, 0)) W6 ∧ Rs T X r2 w (W6.setCell ⟨X, 1, none⟩ v)) := Lib.hid (fun W W6 v G' hG hW hg ho hl => by
      rw [← hr2]
      exact rs_addBody hW hG bb _ hg (by rw [hnb]; exact ho) hl)
    cases hl : look r1.names p with
    | none =>
      rw [hl] at hz
      obtain rfl : -1 = z := hz
      have hsz : (usedR r1 : Int) - sizeR r1 (look r1.names p) = (u : Int) := by rw [hl, hu]; show (u : Int) - ((0 : Nat) : Int) = _; omega
      clear hu
      by_cases hroom : (u : Int) + (bb.length : Int) ≤ rm
      · have hq : writeR r p bb = (0, r3) := by unfold writeR; rw [hb, hc]; dsimp only; rw [if_pos rfl, if_pos (by rw [hsz, hrm]; exact hroom), hr2, hnb, hr3]
        rw [hq]
        clear hri H hT hc hb hnm hl hnb hrm hsame hur hsz hD hzb hr2 hr3 hr2n hr2c 
        go_enter Tryz.func25, Tryz.ntmps25
        go_upto_region 11 with (first
          | (go_at_call 59; (with_reducible refine (HRI.out _).mono ?_); rintro e w1 ⟨rfl, b1⟩)
          | (go_at_call 58; (with_reducible refine (HCA.out _ (HH.out.off (Off.of_below b1) (fun _ _ h => h))).mono ?_); rintro e w2 ⟨rfl, hR2, o2⟩
             have hs2 := Rs.call (F := fun k => k = X) ((Rs.refl HH.out).below b1) (hR2.mono (fun _ h => .inl h)) (fun x hx => .inl (by rw [hx]; exact HH.out.tx)) o2)
          | (go_at_call 13; (with_reducible refine (HUS.out _ hs2).mono ?_); rintro e w3 ⟨rfl, b3⟩
             have hs3 := hs2.below b3
             obtain ⟨⟨G3, hR3⟩, _⟩ := id hs3
             obtain ⟨An, cn, hn1', hn2⟩ := hR3.names
             have c2 : w3.cell? ⟨X, 2, none⟩ = some (.slice An nm cn) := (hR3.disk.cell 2).trans (by rw [← HNM.out, ← hn1']; rfl))
          | (go_at_call 36; (with_reducible refine (HAT.out _ _ _ hn2).mono ?_); rintro e w4 ⟨rfl, b4⟩
             have hs4 := hs3.below b4
             obtain ⟨⟨G4, hR4⟩, _⟩ := id hs4
             have x0 : w4.cell? ⟨X, 0, none⟩ = some (.int .i64 rm) := (hR4.disk.cell 0).trans (by rw [← HRM.out]; rfl)
             obtain ⟨Ab, cb, hb1, hb2⟩ := hR4.bodies
             rw [HNB.out] at hb1
             have x1 : w4.cell? ⟨X, 1, none⟩ = some (.slice Ab nb cb) := (hR4.disk.cell 1).trans (by rw [← hb1]; rfl)
             skip
             have HR4 := Lib.hid hR4
             have HS4 := Lib.hid hs4
             have HB1 := Lib.hid hb1
             clear hR4 hs4 hb2 hb1 hR3 hs3 hn1' hn2 hR2 o2 hs2
             have hba4 := (Below.refl w4.heap.size w4).alloc (Nat.le_refl _) (.cells #[.string (bs bb), .string ⟨#[]⟩] TBd)
             have x1b := (hba4.cell (p := ⟨X, 1, none⟩) HR4.out.disk.lt).trans x1
             have HOB := Lib.hid (own_off HR4.out.bods (Off.of_below hba4) (fun _ _ h => h))
             clear hba4)
          | (at_builtin; refine wpList_append_own_at _ rfl _ _ 61 rfl 0 TBd i0 (.agg #[.string ⟨#[]⟩, .string ⟨#[]⟩]) 2 32 Tryz.underlying61 hi hz0 hz1 hz2 rfl (by decide) (.slice Ab nb cb) nb (cellsRB r1.bodies) rfl (by rw [← HB1.out, ← HNB.out]; exact HOB.out) ⟨w4.heap.size, 0, none⟩ 1 1 [.string (bs bb), .string ⟨#[]⟩] rfl rfl (two_news w4 _ _ TBd) (fun u hu => by simp at hu; rcases hu with rfl | rfl <;> rfl) (by unfold maxLen; omega) (by omega) (Nat.zero_le _) ?_; intro v' w6 hown' hg6 _ hloc
             obtain ⟨A6, c6, hv6⟩ := own_len hown'
             rw [HN1.out] at hv6
             subst hv6
             obtain ⟨hx6, hs7⟩ := HBD.out w4 w6 _ G4 HR4.out HS4.out (by rw [HB1.out]; exact hg6) hown' (by rw [HB1.out]; exact hloc)
             have a4 := hx6.cell 1
             have af := hx6.free 1
             clear hown' hg6 hloc))
        obtain ⟨W0, hW0⟩ : ∃ V, w6.setCell ⟨X, 1, none⟩ (.slice A6 n1 c6) = V := ⟨_, rfl⟩
        have hy1 : W0.cell? ⟨X, 1, none⟩ = some (.slice A6 n1 c6) := by rw [← hW0]; exact (hx6.set 1 (.slice A6 n1 c6)).cell 1
        rw [hW0] at hs7 ⊢
        have HS7 := Lib.hid hs7
        have hXlt : X < W0.heap.size := by
          obtain ⟨⟨G7, hG7⟩, _⟩ := id hs7
          exact hG7.disk.lt
        have HXV : Hid (∀ V, Below W0.heap.size W0 V → V.cell? ⟨X, 1, none⟩ = some (.slice A6 n1 c6)) := Lib.hid (fun V hb => (hb.cell (p := ⟨X, 1, none⟩) hXlt).trans hy1)
        have y1 : W0.drew.cell? ⟨X, 1, none⟩ = some (.slice A6 n1 c6) := hy1
        have hbd : Below W0.heap.size W0 W0.drew := Kept.drew (show Kept W0 W0 from Below.refl _ _)
        have y1b : (W0.drew.alloc (.cells #[.string (bs p), .int .i64 zb] TN)).cell? ⟨X, 1, none⟩ = some (.slice A6 n1 c6) := HXV.out _ (hbd.alloc hbd.size _)
        have HBD2 := Lib.hid hbd
        have HCG2 : Hid (∀ w7, Below (W0.drew.alloc (.cells #[.string (bs p), .int .i64 zb] TN)).heap.size (W0.drew.alloc (.cells #[.string (bs p), .int .i64 zb] TN)) w7 → Calls Tryz.prog 60 #[.pointer (some ⟨X, 0, none⟩), .string D, .slice (some ⟨W0.heap.size, 0, none⟩) 1 1] w7 fun e w' => e = .returned (.tuple #[]) ∧ Rs T X r3 w w') := Lib.hid (fun w7 h => HCG.out W0.drew w7 HS7.out.drew h)
        clear hW0 a4 af hx6 hy1 hs7 hXlt hbd x0 x1
        go_region_with (first
          | (go_at_call 41; (with_reducible refine (HDI.out _).mono ?_); rintro e w7 ⟨rfl, b7⟩
             first
               | (have k7 : Kept W0 w7 := Kept.go (Kept.drew (show Kept W0 W0 from Below.refl _ _)) b7
                  have y7 := HXV.out w7 k7)
               | (have k7 : Kept W0 w7 := Kept.go (Kept.go (Kept.drew (show Kept W0 W0 from Below.refl _ _)) ((Below.refl _ _).alloc (Nat.le_refl _) _)) b7
                  have y7 := HXV.out w7 k7))
          | (go_at_call 60
             first
               | (with_reducible refine (HCG.out w7 _ (HS7.out.drew.below b7) (Below.refl _ _)).mono ?_
                  rintro e w9 ⟨rfl, hs9⟩)
               | (have q7 := HCG2.out w7 b7
                  with_reducible refine q7.mono ?_
                  rintro e w9 ⟨rfl, hs9⟩)))
        all_goals go_wp2
        all_goals go_ret
        all_goals exact ⟨rfl, hs9⟩
      · have hq : writeR r p bb = (61, r1) := by unfold writeR; rw [hb, hc]; dsimp only; rw [if_pos rfl, if_neg (by rw [hsz, hrm]; exact hroom)]
        rw [hq]
        have hroom' : rm < (u : Int) + (bb.length : Int) := by omega
        clear hri H hT hc hb hnm hl hnb hrm hsame hur hsz hD hzb hr2 hr3 hr2n hr2c 
        go_enter Tryz.func25, Tryz.ntmps25
        go_wp2_with (first
          | (go_at_call 59; (with_reducible refine (HRI.out _).mono ?_); rintro e w1 ⟨rfl, b1⟩)
          | (go_at_call 58; (with_reducible refine (HCA.out _ (HH.out.off (Off.of_below b1) (fun _ _ h => h))).mono ?_); rintro e w2 ⟨rfl, hR2, o2⟩
             have hs2 := Rs.call (F := fun k => k = X) ((Rs.refl HH.out).below b1) (hR2.mono (fun _ h => .inl h)) (fun x hx => .inl (by rw [hx]; exact HH.out.tx)) o2)
          | (go_at_call 13; (with_reducible refine (HUS.out _ hs2).mono ?_); rintro e w3 ⟨rfl, b3⟩
             have hs3 := hs2.below b3
             obtain ⟨⟨G3, hR3⟩, _⟩ := id hs3
             obtain ⟨An, cn, hn1', hn2⟩ := hR3.names
             have c2 : w3.cell? ⟨X, 2, none⟩ = some (.slice An nm cn) := (hR3.disk.cell 2).trans (by rw [← HNM.out, ← hn1']; rfl))
          | (go_at_call 36; (with_reducible refine (HAT.out _ _ _ hn2).mono ?_); rintro e w4 ⟨rfl, b4⟩
             have hs4 := hs3.below b4
             obtain ⟨⟨G4, hR4⟩, _⟩ := id hs4
             have x0 : w4.cell? ⟨X, 0, none⟩ = some (.int .i64 rm) := (hR4.disk.cell 0).trans (by rw [← HRM.out]; rfl)
             obtain ⟨Ab, cb, hb1, hb2⟩ := hR4.bodies
             rw [HNB.out] at hb1
             have x1 : w4.cell? ⟨X, 1, none⟩ = some (.slice Ab nb cb) := (hR4.disk.cell 1).trans (by rw [← hb1]; rfl)
             skip
             have HR4 := Lib.hid hR4
             have HS4 := Lib.hid hs4
             have HB1 := Lib.hid hb1
             clear hR4 hs4 hb2 hb1 hR3 hs3 hn1' hn2 hR2 o2 hs2))
        go_ret
        exact ⟨rfl, HS4.out⟩
    | some k =>
      rw [hl] at hz
      obtain rfl : (k : Int) = z := hz
      have hkb : k < r1.bodies.length := by rw [hsame.1]; have hm := look_mem hl; rw [hsame.2.2.1] at hm; exact K.ix _ hm
      have HKB := Lib.hid hkb
      have hknb : k < nb := by rw [← hnb]; exact hkb
      have i0' : (0 : Int) ≤ (k : Int) := by omega
      have i1' : (k : Int) < (nb : Int) := by omega
      obtain ⟨DD, hDD⟩ : ∃ D, rbody r1 k = D := ⟨_, rfl⟩
      have HDK := Lib.hid hDD
      have hDs : (bs DD.now).size = DD.now.length := bs_size _
      have hDl : DD.now.length ≤ u := by rw [← hDD, ← hu, hur]; unfold rbody; rw [hsame.1]; exact hsu k (by rw [← hsame.2.2.1]; exact hl)
      have hDl2 : (bs DD.now).size ≤ u := by rw [hDs]; exact hDl
      obtain ⟨lD, hlD⟩ : ∃ n, DD.now.length = n := ⟨_, rfl⟩
      rw [hlD] at hDs hDl
      have hsz : (usedR r1 : Int) - sizeR r1 (look r1.names p) = (u : Int) - (lD : Int) := by rw [hl, hu, ← hlD, ← hDD]; rfl
      by_cases hroom : ((u : Int) - (lD : Int)) + (bb.length : Int) ≤ rm
      · have hq : writeR r p bb = (0, r3) := by unfold writeR; rw [hb, hc]; dsimp only; rw [if_pos rfl, if_pos (by rw [hsz, hrm]; exact hroom), hr2, hnb, hr3]
        rw [hq]
        clear hri H hT hc hb hnm hl hnb hrm hsame hur hsz hD hzb hr2 hr3 hr2n hr2c hDD hkb hu hlD hDl2
        go_enter Tryz.func25, Tryz.ntmps25
        go_upto_region 11 with (first
          | (go_at_call 59; (with_reducible refine (HRI.out _).mono ?_); rintro e w1 ⟨rfl, b1⟩)
          | (go_at_call 58; (with_reducible refine (HCA.out _ (HH.out.off (Off.of_below b1) (fun _ _ h => h))).mono ?_); rintro e w2 ⟨rfl, hR2, o2⟩
             have hs2 := Rs.call (F := fun k => k = X) ((Rs.refl HH.out).below b1) (hR2.mono (fun _ h => .inl h)) (fun x hx => .inl (by rw [hx]; exact HH.out.tx)) o2)
          | (go_at_call 13; (with_reducible refine (HUS.out _ hs2).mono ?_); rintro e w3 ⟨rfl, b3⟩
             have hs3 := hs2.below b3
             obtain ⟨⟨G3, hR3⟩, _⟩ := id hs3
             obtain ⟨An, cn, hn1', hn2⟩ := hR3.names
             have c2 : w3.cell? ⟨X, 2, none⟩ = some (.slice An nm cn) := (hR3.disk.cell 2).trans (by rw [← HNM.out, ← hn1']; rfl))
          | (go_at_call 36; (with_reducible refine (HAT.out _ _ _ hn2).mono ?_); rintro e w4 ⟨rfl, b4⟩
             have hs4 := hs3.below b4
             obtain ⟨⟨G4, hR4⟩, _⟩ := id hs4
             have x0 : w4.cell? ⟨X, 0, none⟩ = some (.int .i64 rm) := (hR4.disk.cell 0).trans (by rw [← HRM.out]; rfl)
             obtain ⟨Ab, cb, hb1, hb2⟩ := hR4.bodies
             rw [HNB.out] at hb1
             have x1 : w4.cell? ⟨X, 1, none⟩ = some (.slice Ab nb cb) := (hR4.disk.cell 1).trans (by rw [← hb1]; rfl)
             obtain ⟨b', hAe, _, hcc⟩ := hb2 (by have := HKB.out; omega)
             have y0 := (hcc k HKB.out).1
             subst hAe
             rw [rbody_at' HKB.out, HDK.out, Nat.zero_add] at y0
             change w4.cell? ⟨b', k * 2, none⟩ = some (.string (bs DD.now)) at y0
             clear hcc
             have HR4 := Lib.hid hR4
             have HS4 := Lib.hid hs4
             have HB1 := Lib.hid hb1
             clear hR4 hs4 hb2 hb1 hR3 hs3 hn1' hn2 hR2 o2 hs2
             have hba4 := (Below.refl w4.heap.size w4).alloc (Nat.le_refl _) (.cells #[.string (bs bb), .string ⟨#[]⟩] TBd)
             have x1b := (hba4.cell (p := ⟨X, 1, none⟩) HR4.out.disk.lt).trans x1
             have HOB := Lib.hid (own_off HR4.out.bods (Off.of_below hba4) (fun _ _ h => h))
             clear hba4)
          | (at_builtin; refine wpList_append_own_at _ rfl _ _ 61 rfl 0 TBd i0 (.agg #[.string ⟨#[]⟩, .string ⟨#[]⟩]) 2 32 Tryz.underlying61 hi hz0 hz1 hz2 rfl (by decide) (.slice (some ⟨b', 0, none⟩) nb cb) nb (cellsRB r1.bodies) rfl (by rw [← HB1.out, ← HNB.out]; exact HOB.out) ⟨w4.heap.size, 0, none⟩ 1 1 [.string (bs bb), .string ⟨#[]⟩] rfl rfl (two_news w4 _ _ TBd) (fun u hu => by simp at hu; rcases hu with rfl | rfl <;> rfl) (by unfold maxLen; omega) (by omega) (Nat.zero_le _) ?_; intro v' w6 hown' hg6 _ hloc
             obtain ⟨A6, c6, hv6⟩ := own_len hown'
             rw [HN1.out] at hv6
             subst hv6
             obtain ⟨hx6, hs7⟩ := HBD.out w4 w6 _ G4 HR4.out HS4.out (by rw [HB1.out]; exact hg6) hown' (by rw [HB1.out]; exact hloc)
             have a4 := hx6.cell 1
             have af := hx6.free 1
             clear hown' hg6 hloc))
        obtain ⟨W0, hW0⟩ : ∃ V, w6.setCell ⟨X, 1, none⟩ (.slice A6 n1 c6) = V := ⟨_, rfl⟩
        have hy1 : W0.cell? ⟨X, 1, none⟩ = some (.slice A6 n1 c6) := by rw [← hW0]; exact (hx6.set 1 (.slice A6 n1 c6)).cell 1
        rw [hW0] at hs7 ⊢
        have HS7 := Lib.hid hs7
        have hXlt : X < W0.heap.size := by
          obtain ⟨⟨G7, hG7⟩, _⟩ := id hs7
          exact hG7.disk.lt
        have HXV : Hid (∀ V, Below W0.heap.size W0 V → V.cell? ⟨X, 1, none⟩ = some (.slice A6 n1 c6)) := Lib.hid (fun V hb => (hb.cell (p := ⟨X, 1, none⟩) hXlt).trans hy1)
        have y1 : W0.drew.cell? ⟨X, 1, none⟩ = some (.slice A6 n1 c6) := hy1
        have hbd : Below W0.heap.size W0 W0.drew := Kept.drew (show Kept W0 W0 from Below.refl _ _)
        have y1b : (W0.drew.alloc (.cells #[.string (bs p), .int .i64 zb] TN)).cell? ⟨X, 1, none⟩ = some (.slice A6 n1 c6) := HXV.out _ (hbd.alloc hbd.size _)
        have HBD2 := Lib.hid hbd
        have HCG2 : Hid (∀ w7, Below (W0.drew.alloc (.cells #[.string (bs p), .int .i64 zb] TN)).heap.size (W0.drew.alloc (.cells #[.string (bs p), .int .i64 zb] TN)) w7 → Calls Tryz.prog 60 #[.pointer (some ⟨X, 0, none⟩), .string D, .slice (some ⟨W0.heap.size, 0, none⟩) 1 1] w7 fun e w' => e = .returned (.tuple #[]) ∧ Rs T X r3 w w') := Lib.hid (fun w7 h => HCG.out W0.drew w7 HS7.out.drew h)
        clear hW0 a4 af hx6 hy1 hs7 hXlt hbd x0 x1
        go_region_with (first
          | (go_at_call 41; (with_reducible refine (HDI.out _).mono ?_); rintro e w7 ⟨rfl, b7⟩
             first
               | (have k7 : Kept W0 w7 := Kept.go (Kept.drew (show Kept W0 W0 from Below.refl _ _)) b7
                  have y7 := HXV.out w7 k7)
               | (have k7 : Kept W0 w7 := Kept.go (Kept.go (Kept.drew (show Kept W0 W0 from Below.refl _ _)) ((Below.refl _ _).alloc (Nat.le_refl _) _)) b7
                  have y7 := HXV.out w7 k7))
          | (go_at_call 60
             first
               | (with_reducible refine (HCG.out w7 _ (HS7.out.drew.below b7) (Below.refl _ _)).mono ?_
                  rintro e w9 ⟨rfl, hs9⟩)
               | (have q7 := HCG2.out w7 b7
                  with_reducible refine q7.mono ?_
                  rintro e w9 ⟨rfl, hs9⟩)))
        all_goals go_wp2
        all_goals go_ret
        all_goals exact ⟨rfl, hs9⟩
      · have hq : writeR r p bb = (61, r1) := by unfold writeR; rw [hb, hc]; dsimp only; rw [if_pos rfl, if_neg (by rw [hsz, hrm]; exact hroom)]
        rw [hq]
        have hroom' : rm < ((u : Int) - (lD : Int)) + (bb.length : Int) := by omega
        clear hri H hT hc hb hnm hl hnb hrm hsame hur hsz hD hzb hr2 hr3 hr2n hr2c hDD hkb hu hlD hDl2
        go_enter Tryz.func25, Tryz.ntmps25
        go_wp2_with (first
          | (go_at_call 59; (with_reducible refine (HRI.out _).mono ?_); rintro e w1 ⟨rfl, b1⟩)
          | (go_at_call 58; (with_reducible refine (HCA.out _ (HH.out.off (Off.of_below b1) (fun _ _ h => h))).mono ?_); rintro e w2 ⟨rfl, hR2, o2⟩
             have hs2 := Rs.call (F := fun k => k = X) ((Rs.refl HH.out).below b1) (hR2.mono (fun _ h => .inl h)) (fun x hx => .inl (by rw [hx]; exact HH.out.tx)) o2)
          | (go_at_call 13; (with_reducible refine (HUS.out _ hs2).mono ?_); rintro e w3 ⟨rfl, b3⟩
             have hs3 := hs2.below b3
             obtain ⟨⟨G3, hR3⟩, _⟩ := id hs3
             obtain ⟨An, cn, hn1', hn2⟩ := hR3.names
             have c2 : w3.cell? ⟨X, 2, none⟩ = some (.slice An nm cn) := (hR3.disk.cell 2).trans (by rw [← HNM.out, ← hn1']; rfl))
          | (go_at_call 36; (with_reducible refine (HAT.out _ _ _ hn2).mono ?_); rintro e w4 ⟨rfl, b4⟩
             have hs4 := hs3.below b4
             obtain ⟨⟨G4, hR4⟩, _⟩ := id hs4
             have x0 : w4.cell? ⟨X, 0, none⟩ = some (.int .i64 rm) := (hR4.disk.cell 0).trans (by rw [← HRM.out]; rfl)
             obtain ⟨Ab, cb, hb1, hb2⟩ := hR4.bodies
             rw [HNB.out] at hb1
             have x1 : w4.cell? ⟨X, 1, none⟩ = some (.slice Ab nb cb) := (hR4.disk.cell 1).trans (by rw [← hb1]; rfl)
             obtain ⟨b', hAe, _, hcc⟩ := hb2 (by have := HKB.out; omega)
             have y0 := (hcc k HKB.out).1
             subst hAe
             rw [rbody_at' HKB.out, HDK.out, Nat.zero_add] at y0
             change w4.cell? ⟨b', k * 2, none⟩ = some (.string (bs DD.now)) at y0
             clear hcc
             have HR4 := Lib.hid hR4
             have HS4 := Lib.hid hs4
             have HB1 := Lib.hid hb1
             clear hR4 hs4 hb2 hb1 hR3 hs3 hn1' hn2 hR2 o2 hs2))
        go_ret
        exact ⟨rfl, HS4.out⟩
  · have hq : writeR r p bb = (ev, r1) := by unfold writeR; rw [hb, hc]; dsimp only; rw [if_neg he]
    rw [hq]
    clear hri H hT hc hb
    have he2 : (ev == 0) = false := by rw [beq_eq_false_iff_ne]; exact he
    go_enter Tryz.func25, Tryz.ntmps25
    go_wp2_with (first
      | (go_at_call 59; (with_reducible refine (HRI.out _).mono ?_); rintro e w1 ⟨rfl, b1⟩)
      | (go_at_call 58; (with_reducible refine (HCA.out _ (HH.out.off (Off.of_below b1) (fun _ _ h => h))).mono ?_); rintro e w2 ⟨rfl, hR2, o2⟩))
    go_ret
    exact ⟨rfl, Rs.call (F := fun k => k = X) ((Rs.refl HH.out).below b1) (hR2.mono (fun _ h => .inl h)) (fun x hx => .inl (by rw [hx]; exact HH.out.tx)) o2⟩
end Go.Proofs.YtbodkjifpmencaaGreat
