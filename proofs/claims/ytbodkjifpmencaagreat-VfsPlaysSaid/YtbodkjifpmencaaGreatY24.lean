/-
  The walk of the document's Rename, on any disk. No conditions.
-/
import Derived.Test.YtbodkjifpmencaaGreatY23
namespace Go.Proofs.YtbodkjifpmencaaGreat
open Go.RowKit
open Go.Lib

theorem four_news (w : World) (a b c d : Value) (t : TypeId) : Blk w.heap.size (.cells #[a, b, c, d] t (0, 0)) (w.alloc (.cells #[a, b, c, d] t)) := Blk.new (.cells #[a, b, c, d] t (0, 0)) w
/-- Two names, made anew, as the change's list. -/
theorem rcs_two {T : Nat → Prop} {w w4 : World} (p t : Bs) (x y : Option Nat) (hs : w.heap.size ≤ w4.heap.size) : RCs (w4.alloc (.cells #[.string (bs p), .int .i64 (intO x), .string (bs t), .int .i64 (intO y)] TN)) (More T w (w4.alloc (.cells #[.string (bs p), .int .i64 (intO x), .string (bs t), .int .i64 (intO y)] TN))) (some ⟨w4.heap.size, 0, none⟩) [(p, x), (t, y)] := fun _ => by
  have hB := Blk.new (.cells #[.string (bs p), .int .i64 (intO x), .string (bs t), .int .i64 (intO y)] TN (0, 0)) w4
  refine ⟨w4.heap.size, 0, rfl, .inr ⟨hs, hB.lt⟩, hB.kind, fun j hj => ?_⟩
  have : j = 0 ∨ j = 1 := by simp at hj; omega
  rcases this with rfl | rfl
  · exact ⟨hB.cell 0, hB.cell 1⟩
  · exact ⟨hB.cell 2, hB.cell 3⟩
theorem eqB_bool (a b : Bs) : ((bs a).toList == (bs b).toList) = (a == b) := by
  by_cases h : a = b
  · rw [eqB_of h, h]; simp
  · rw [show (a == b) = false from by simpa using h]
    exact Bool.eq_false_iff.2 (fun e => h (of_eqB e))
set_option maxRecDepth 100000 in
set_option maxHeartbeats 8000000 in
theorem rrename_any {T : Nat → Prop} {X : Nat} {G : RLay} {r : R} {w : World} (H : RD T X G r w) (hT : ∀ b, T b → b < w.heap.size) (K : ROk r) (p t : Bs) (hp : p.length ≤ 1000) (ht : t.length ≤ 1000) :
    Calls Tryz.prog 28 #[.pointer (some ⟨X, 0, none⟩), .string (bs p), .string (bs t)] w fun e w' => e = .returned (.int .i64 (renameR r p t).1) ∧ Rs T X (renameR r p t).2 w w' := by
  obtain ⟨r1, h1⟩ : ∃ b, rightL p = b := ⟨_, rfl⟩
  obtain ⟨r2, h2⟩ : ∃ b, rightL t = b := ⟨_, rfl⟩
  have HR1 : Hid (∀ W, Calls Tryz.prog 59 #[.string (bs p)] W fun e w' => e = .returned (.bool r1) ∧ Below W.heap.size W w') := Lib.hid (fun W => by
    have := rright_any (bs p) W (by rw [bs_size]; omega)
    rw [bs_list, h1] at this
    exact this)
  have HR2 : Hid (∀ W, Calls Tryz.prog 59 #[.string (bs t)] W fun e w' => e = .returned (.bool r2) ∧ Below W.heap.size W w') := Lib.hid (fun W => by
    have := rright_any (bs t) W (by rw [bs_size]; omega)
    rw [bs_list, h2] at this
    exact this)
  obtain ⟨ds, hds⟩ : ∃ x, bs (dirL p) = x := ⟨_, rfl⟩
  obtain ⟨dt, hdt⟩ : ∃ x, bs (dirL t) = x := ⟨_, rfl⟩
  have HD1 : Hid (∀ W, Calls Tryz.prog 41 #[.string (bs p)] W fun e w' => e = .returned (.string ds) ∧ Below W.heap.size W w') := Lib.hid (fun W => by
    have := rdir_any (bs p) W (by rw [bs_size]; omega)
    rw [bs_list, split_dir, hds] at this
    exact this)
  have HD2 : Hid (∀ W, Calls Tryz.prog 41 #[.string (bs t)] W fun e w' => e = .returned (.string dt) ∧ Below W.heap.size W w') := Lib.hid (fun W => by
    have := rdir_any (bs t) W (by rw [bs_size]; omega)
    rw [bs_list, split_dir, hdt] at this
    exact this)
  have hdd : (ds.toList == dt.toList) = (dirL p == dirL t) := by rw [← hds, ← hdt]; exact eqB_bool _ _
  have HH := Lib.hid H
  have HT := Lib.hid hT
  have hfalse : (r1 && r2 && (dirL p == dirL t)) = false → renameR r p t = (2, r) := fun h => by
    unfold renameR
    rw [h1, h2, h]
    rfl
  cases r1
  · rw [hfalse (by simp)]
    have HCA : Hid (∀ W, RD T X G r W → Calls Tryz.prog 58 #[.pointer (some ⟨X, 0, none⟩), .bool false] W fun e w' => e = .returned (.int .i64 2) ∧ RD T X G r w' ∧ Off (fun k => k = X) W w') := Lib.hid (fun W hW => by
      have := rcall_any hW false K.c0 K.c1
      rw [show callR r false = (2, r) from rfl] at this
      exact this)
    clear H hT h1 h2 hds hdt hdd hfalse
    go_enter Tryz.func28, Tryz.ntmps28
    go_wp2_with (first
      | (go_at_call 59; (with_reducible refine (HR1.out _).mono ?_); rintro e w1 ⟨rfl, b1⟩)
      | (go_at_call 58; (with_reducible refine (HCA.out _ (HH.out.off (Off.of_below b1) (fun _ _ h => h))).mono ?_); rintro e w5 ⟨rfl, hR5, o5⟩
         have hs5 := Rs.call (F := fun k => k = X) ((Rs.refl HH.out).below b1) (hR5.mono (fun _ h => .inl h)) (fun x hx => .inl (by rw [hx]; exact HH.out.tx)) o5))
    go_ret
    exact ⟨rfl, hs5⟩
  · cases r2
    · rw [hfalse (by simp)]
      have HCA : Hid (∀ W, RD T X G r W → Calls Tryz.prog 58 #[.pointer (some ⟨X, 0, none⟩), .bool false] W fun e w' => e = .returned (.int .i64 2) ∧ RD T X G r w' ∧ Off (fun k => k = X) W w') := Lib.hid (fun W hW => by
        have := rcall_any hW false K.c0 K.c1
        rw [show callR r false = (2, r) from rfl] at this
        exact this)
      clear H hT h1 h2 hds hdt hdd hfalse
      go_enter Tryz.func28, Tryz.ntmps28
      go_wp2_with (first
        | (go_at_call 59; (with_reducible refine (HR1.out _).mono ?_); rintro e w1 ⟨rfl, b1⟩)
        | (go_at_call 59; (with_reducible refine (HR2.out _).mono ?_); rintro e w2 ⟨rfl, b2⟩
           have k2 : Below w.heap.size w w2 := Kept.go (show Kept w w1 from b1) b2)
        | (go_at_call 58; (with_reducible refine (HCA.out _ (HH.out.off (Off.of_below k2) (fun _ _ h => h))).mono ?_); rintro e w5 ⟨rfl, hR5, o5⟩
           have hs5 := Rs.call (F := fun k => k = X) ((Rs.refl HH.out).below k2) (hR5.mono (fun _ h => .inl h)) (fun x hx => .inl (by rw [hx]; exact HH.out.tx)) o5))
      go_ret
      exact ⟨rfl, hs5⟩
    · obtain ⟨dd, hde⟩ : ∃ b, (dirL p == dirL t) = b := ⟨_, rfl⟩
      rw [hde] at hdd hfalse
      cases dd
      · rw [hfalse (by simp)]
        have HCA : Hid (∀ W, RD T X G r W → Calls Tryz.prog 58 #[.pointer (some ⟨X, 0, none⟩), .bool false] W fun e w' => e = .returned (.int .i64 2) ∧ RD T X G r w' ∧ Off (fun k => k = X) W w') := Lib.hid (fun W hW => by
          have := rcall_any hW false K.c0 K.c1
          rw [show callR r false = (2, r) from rfl] at this
          exact this)
        clear H hT h1 h2 hds hdt hfalse hde
        go_enter Tryz.func28, Tryz.ntmps28
        go_wp2_with (first
          | (go_at_call 59; (with_reducible refine (HR1.out _).mono ?_); rintro e w1 ⟨rfl, b1⟩)
          | (go_at_call 59; (with_reducible refine (HR2.out _).mono ?_); rintro e w2 ⟨rfl, b2⟩
             have k2 : Below w.heap.size w w2 := Kept.go (show Kept w w1 from b1) b2)
          | (go_at_call 41; (with_reducible refine (HD1.out _).mono ?_); rintro e w3 ⟨rfl, b3⟩
             have k3 : Below w.heap.size w w3 := Kept.go k2 b3)
          | (go_at_call 41; (with_reducible refine (HD2.out _).mono ?_); rintro e w4 ⟨rfl, b4⟩
             have k4 : Below w.heap.size w w4 := Kept.go k3 b4)
          | (go_at_call 58; (with_reducible refine (HCA.out _ (HH.out.off (Off.of_below k4) (fun _ _ h => h))).mono ?_); rintro e w5 ⟨rfl, hR5, o5⟩
             have hs5 := Rs.call (F := fun k => k = X) ((Rs.refl HH.out).below k4) (hR5.mono (fun _ h => .inl h)) (fun x hx => .inl (by rw [hx]; exact HH.out.tx)) o5))
        go_ret
        exact ⟨rfl, hs5⟩
      · obtain ⟨ev, r1, hc⟩ : ∃ e r1, callR r true = (e, r1) := ⟨_, _, rfl⟩
        have hsame := callR_same r true
        rw [hc] at hsame
        dsimp only at hsame
        have HCA : Hid (∀ W, RD T X G r W → Calls Tryz.prog 58 #[.pointer (some ⟨X, 0, none⟩), .bool true] W fun e w' => e = .returned (.int .i64 ev) ∧ RD T X G r1 w' ∧ Off (fun k => k = X) W w') := Lib.hid (fun W hW => by
          have := rcall_any hW true K.c0 K.c1
          rw [hc] at this
          exact this)
        by_cases he : ev = 0
        · subst he
          obtain ⟨nm, hnm⟩ : ∃ n, r1.names.length = n := ⟨_, rfl⟩
          have hnm2 : nm ≤ 800000 := by rw [← hnm, hsame.2.2.1]; exact K.nn
          have HNM := Lib.hid hnm
          obtain ⟨z, hz⟩ : ∃ z, intO (look r1.names p) = z := ⟨_, rfl⟩
          have HAT : Hid (∀ W A c, RN W A r1.names → Calls Tryz.prog 36 #[.slice A nm c, .string (bs p)] W fun e w' => e = .returned (.int .i64 z) ∧ Below W.heap.size W w') := Lib.hid (fun W A c hR => by
            have := rat_any r1.names A c p nm hnm W hR (by omega) (by omega)
            rw [hz] at this
            exact this)
          cases hl : look r1.names p with
          | none =>
            have hq : renameR r p t = (60, r1) := by unfold renameR; rw [h1, h2, hde, show (true && true && true) = true from rfl, hc]; dsimp only; rw [if_pos rfl, hl]
            rw [hq]
            rw [hl] at hz
            obtain rfl : -1 = z := hz
            clear H hT h1 h2 hds hdt hfalse hde hc hnm hl hsame
            go_enter Tryz.func28, Tryz.ntmps28
            go_wp2_with (first
              | (go_at_call 59; (with_reducible refine (HR1.out _).mono ?_); rintro e w1 ⟨rfl, b1⟩)
              | (go_at_call 59; (with_reducible refine (HR2.out _).mono ?_); rintro e w2 ⟨rfl, b2⟩
                 have k2 : Below w.heap.size w w2 := Kept.go (show Kept w w1 from b1) b2)
              | (go_at_call 41; (with_reducible refine (HD1.out _).mono ?_); rintro e w3 ⟨rfl, b3⟩
                 have k3 : Below w.heap.size w w3 := Kept.go k2 b3)
              | (go_at_call 41; (with_reducible refine (HD2.out _).mono ?_); rintro e w4 ⟨rfl, b4⟩
                 have k4 : Below w.heap.size w w4 := Kept.go k3 b4)
              | (go_at_call 58; (with_reducible refine (HCA.out _ (HH.out.off (Off.of_below k4) (fun _ _ h => h))).mono ?_); rintro e w5 ⟨rfl, hR5, o5⟩
                 have hs5 := Rs.call (F := fun k => k = X) ((Rs.refl HH.out).below k4) (hR5.mono (fun _ h => .inl h)) (fun x hx => .inl (by rw [hx]; exact HH.out.tx)) o5
                 obtain ⟨An, cn, hn1, hn2⟩ := hR5.names
                 have c2 : w5.cell? ⟨X, 2, none⟩ = some (.slice An nm cn) := (hR5.disk.cell 2).trans (by rw [← HNM.out, ← hn1]; rfl))
              | (go_at_call 36; (with_reducible refine (HAT.out _ _ _ hn2).mono ?_); rintro e w6 ⟨rfl, b6⟩
                 have hs6 := hs5.below b6))
            go_ret
            exact ⟨rfl, hs6⟩
          | some k =>
            rw [hl] at hz
            obtain rfl : (k : Int) = z := hz
            obtain ⟨eq, hx⟩ : ∃ b, ((bs p).toList == (bs t).toList) = b := ⟨_, rfl⟩
            cases eq
            · have hne : p ≠ t := fun e => by rw [eqB_of e] at hx; cases hx
              have hq : renameR r p t = (0, changeR r1 (dirL t) [(p, none), (t, some k)]) := by unfold renameR; rw [h1, h2, hde, show (true && true && true) = true from rfl, hc]; dsimp only; rw [if_pos rfl, hl]; dsimp only; rw [if_neg hne]
              rw [hq]
              have HCG : Hid (∀ W, Rs T X r1 w W → Calls Tryz.prog 60 #[.pointer (some ⟨X, 0, none⟩), .string dt, .slice (some ⟨W.heap.size, 0, none⟩) 2 2] (W.alloc (.cells #[.string (bs p), .int .i64 (-1), .string (bs t), .int .i64 k] TN)) fun e w' => e = .returned (.tuple #[]) ∧ Rs T X (changeR r1 (dirL t) [(p, none), (t, some k)]) w w') := Lib.hid (fun W hW => by
                rw [← hdt]
                have hba := (Below.refl W.heap.size W).alloc (Nat.le_refl _) (.cells #[.string (bs p), .int .i64 (-1), .string (bs t), .int .i64 k] TN)
                have hX : X < W.heap.size := by
                  obtain ⟨⟨G4, hG4⟩, _⟩ := id hW
                  exact hG4.disk.lt
                refine rs_changeL (hW.below hba) HT.out [(p, none), (t, some k)] _ 2 2 rfl (by decide) (rcs_two p t none (some k) hW.2.size) (fun b hb' => ?_) (dirL t) (by rw [hsame.2.2.1]; exact K.nn) (by rw [hsame.2.1]; exact K.nc)
                have := Option.some.inj hb'
                dsimp only at this
                omega)
              clear H hT h1 h2 hds hdt hfalse hde hc hnm hl hsame hne
              go_enter Tryz.func28, Tryz.ntmps28
              go_wp2_with (first
                | (go_at_call 59; (with_reducible refine (HR1.out _).mono ?_); rintro e w1 ⟨rfl, b1⟩)
                | (go_at_call 59; (with_reducible refine (HR2.out _).mono ?_); rintro e w2 ⟨rfl, b2⟩
                   have k2 : Below w.heap.size w w2 := Kept.go (show Kept w w1 from b1) b2)
                | (go_at_call 41; (with_reducible refine (HD1.out _).mono ?_); rintro e w3 ⟨rfl, b3⟩
                   have k3 : Below w.heap.size w w3 := Kept.go k2 b3)
                | (go_at_call 41; (with_reducible refine (HD2.out _).mono ?_); rintro e w4 ⟨rfl, b4⟩
                   have k4 : Below w.heap.size w w4 := Kept.go k3 b4)
                | (go_at_call 58; (with_reducible refine (HCA.out _ (HH.out.off (Off.of_below k4) (fun _ _ h => h))).mono ?_); rintro e w5 ⟨rfl, hR5, o5⟩
                   have hs5 := Rs.call (F := fun k => k = X) ((Rs.refl HH.out).below k4) (hR5.mono (fun _ h => .inl h)) (fun x hx => .inl (by rw [hx]; exact HH.out.tx)) o5
                   obtain ⟨An, cn, hn1, hn2⟩ := hR5.names
                   have c2 : w5.cell? ⟨X, 2, none⟩ = some (.slice An nm cn) := (hR5.disk.cell 2).trans (by rw [← HNM.out, ← hn1]; rfl))
                | (go_at_call 36; (with_reducible refine (HAT.out _ _ _ hn2).mono ?_); rintro e w6 ⟨rfl, b6⟩
                   have hs6 := hs5.below b6)
                | (go_at_call 41; (with_reducible refine (HD2.out _).mono ?_); rintro e w7 ⟨rfl, b7⟩
                   have hs7 := hs6.below b7)
                | (go_at_call 60; (with_reducible refine (HCG.out _ hs7).mono ?_); rintro e w8 ⟨rfl, hs8⟩))
              go_ret
              exact ⟨rfl, hs8⟩
            · have he : p = t := of_eqB hx
              have hq : renameR r p t = (0, r1) := by unfold renameR; rw [h1, h2, hde, show (true && true && true) = true from rfl, hc]; dsimp only; rw [if_pos rfl, hl]; dsimp only; rw [if_pos he]
              rw [hq]
              clear H hT h1 h2 hds hdt hfalse hde hc hnm hl hsame he
              go_enter Tryz.func28, Tryz.ntmps28
              go_wp2_with (first
                | (go_at_call 59; (with_reducible refine (HR1.out _).mono ?_); rintro e w1 ⟨rfl, b1⟩)
                | (go_at_call 59; (with_reducible refine (HR2.out _).mono ?_); rintro e w2 ⟨rfl, b2⟩
                   have k2 : Below w.heap.size w w2 := Kept.go (show Kept w w1 from b1) b2)
                | (go_at_call 41; (with_reducible refine (HD1.out _).mono ?_); rintro e w3 ⟨rfl, b3⟩
                   have k3 : Below w.heap.size w w3 := Kept.go k2 b3)
                | (go_at_call 41; (with_reducible refine (HD2.out _).mono ?_); rintro e w4 ⟨rfl, b4⟩
                   have k4 : Below w.heap.size w w4 := Kept.go k3 b4)
                | (go_at_call 58; (with_reducible refine (HCA.out _ (HH.out.off (Off.of_below k4) (fun _ _ h => h))).mono ?_); rintro e w5 ⟨rfl, hR5, o5⟩
                   have hs5 := Rs.call (F := fun k => k = X) ((Rs.refl HH.out).below k4) (hR5.mono (fun _ h => .inl h)) (fun x hx => .inl (by rw [hx]; exact HH.out.tx)) o5
                   obtain ⟨An, cn, hn1, hn2⟩ := hR5.names
                   have c2 : w5.cell? ⟨X, 2, none⟩ = some (.slice An nm cn) := (hR5.disk.cell 2).trans (by rw [← HNM.out, ← hn1]; rfl))
                | (go_at_call 36; (with_reducible refine (HAT.out _ _ _ hn2).mono ?_); rintro e w6 ⟨rfl, b6⟩
                   have hs6 := hs5.below b6))
              go_ret
              exact ⟨rfl, hs6⟩
        · have hq : renameR r p t = (ev, r1) := by unfold renameR; rw [h1, h2, hde, show (true && true && true) = true from rfl, hc]; dsimp only; rw [if_neg he]
          rw [hq]
          have he2 : (ev == 0) = false := by rw [beq_eq_false_iff_ne]; exact he
          clear H hT h1 h2 hds hdt hfalse hde hc hsame
          go_enter Tryz.func28, Tryz.ntmps28
          go_wp2_with (first
            | (go_at_call 59; (with_reducible refine (HR1.out _).mono ?_); rintro e w1 ⟨rfl, b1⟩)
            | (go_at_call 59; (with_reducible refine (HR2.out _).mono ?_); rintro e w2 ⟨rfl, b2⟩
               have k2 : Below w.heap.size w w2 := Kept.go (show Kept w w1 from b1) b2)
            | (go_at_call 41; (with_reducible refine (HD1.out _).mono ?_); rintro e w3 ⟨rfl, b3⟩
               have k3 : Below w.heap.size w w3 := Kept.go k2 b3)
            | (go_at_call 41; (with_reducible refine (HD2.out _).mono ?_); rintro e w4 ⟨rfl, b4⟩
               have k4 : Below w.heap.size w w4 := Kept.go k3 b4)
            | (go_at_call 58; (with_reducible refine (HCA.out _ (HH.out.off (Off.of_below k4) (fun _ _ h => h))).mono ?_); rintro e w5 ⟨rfl, hR5, o5⟩
               have hs5 := Rs.call (F := fun k => k = X) ((Rs.refl HH.out).below k4) (hR5.mono (fun _ h => .inl h)) (fun x hx => .inl (by rw [hx]; exact HH.out.tx)) o5))
          go_ret
          exact ⟨rfl, hs5⟩
end Go.Proofs.YtbodkjifpmencaaGreat
