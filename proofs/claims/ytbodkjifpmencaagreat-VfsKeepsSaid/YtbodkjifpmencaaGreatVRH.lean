/-
  Write on the document's disk without room, made anew: whole. No conditions.
-/
import Derived.Test.YtbodkjifpmencaaGreatVRG
import Derived.Deep.CutBlock
namespace Go.Proofs.YtbodkjifpmencaaGreat
open Go.RowKit
open Go.Lib

theorem own_1s {w : World} {base size : Nat} {e : TypeId} {v : Value} {xs : List Value} (h : w.ownsRow base e size v (0 + 1) xs) : ∃ A c, v = .slice A 1 c := by
  rcases h.2 with ⟨_, h⟩ | ⟨g, cap, cur, h, _⟩
  · exact absurd h (by decide)
  · exact ⟨_, _, h⟩
set_option maxRecDepth 100000 in
set_option maxHeartbeats 4000000 in
theorem refwrite_any {X : Nat} {w : World} (H : EmptyD X w) (s t : ByteArray) (hs : s.size ≤ 281474976710656) (ht : t.size ≤ 10000000) : Calls Tryz.prog 25 #[.pointer (some ⟨X, 0, none⟩), .string s, .string t] w fun e w' => (∃ z, e = .returned (.int .i64 z)) ∧ w.grownBy w' (some X) := by
  obtain ⟨i0, hi, hz0, hz1, hz2⟩ := info_parts Tryz.infoBody
  have HX := Lib.hid H
  obtain ⟨r, hr⟩ : ∃ r, rightL s.data.toList = r := ⟨_, rfl⟩
  have hri := rright_any s w hs
  rw [hr] at hri
  have HRI := Lib.hid hri
  obtain ⟨d, hd⟩ : ∃ x, bs (splitL s.data.toList).1 = x := ⟨_, rfl⟩
  have hdi : ∀ W, Calls Tryz.prog 41 #[.string s] W fun e w' => e = .returned (.string d) ∧ Below W.heap.size W w' := fun W => by
    have h := rdir_any s W hs
    rw [hd] at h
    exact h
  have HDI := Lib.hid hdi
  clear hri hr H hdi hd
  obtain ⟨nt, hnt⟩ : ∃ x, t.size = x := ⟨_, rfl⟩
  rw [hnt] at ht
  cases r
  · go_enter Tryz.func25, Tryz.ntmps25
    go_wp2_with (first
      | (go_at_call 59; (with_reducible refine HRI.out.mono ?_); rintro e w1 ⟨rfl, b1⟩)
      | (go_at_call 58; (with_reducible refine (refcall_any (HX.out.below b1) _).mono ?_); rintro e w2 ⟨rfl, rfl⟩))
    go_ret
    exact ⟨⟨_, rfl⟩, grown_of_below b1 _⟩
  · by_cases hz : 0 < nt
    · have hzi : (0 : Int) < (nt : Int) := by omega
      go_enter Tryz.func25, Tryz.ntmps25
      go_wp2_with (first
        | (go_at_call 59; (with_reducible refine HRI.out.mono ?_); rintro e w1 ⟨rfl, b1⟩
           have c0 := (HX.out.below b1).cell 0
           have c2 := (HX.out.below b1).cell 2)
        | (go_at_call 58; (with_reducible refine (refcall_any (HX.out.below b1) _).mono ?_); rintro e w2 ⟨rfl, rfl⟩)
        | (go_at_call 13; (with_reducible refine (refused_any (HX.out.below b1)).mono ?_); rintro e w3 ⟨rfl, rfl⟩)
        | (go_at_call 36; (with_reducible refine (refat_any s _).mono ?_); rintro e w4 ⟨rfl, rfl⟩))
      go_ret
      exact ⟨⟨_, rfl⟩, grown_of_below b1 _⟩
    · obtain rfl : nt = 0 := by omega
      clear hz
      go_enter Tryz.func25, Tryz.ntmps25
      go_upto_region 11 with (first
        | (go_at_call 59; (with_reducible refine HRI.out.mono ?_); rintro e w1 ⟨rfl, b1⟩
           have c0 := (HX.out.below b1).cell 0
           have c2 := (HX.out.below b1).cell 2
           have c1 := (HX.out.below b1).cell 1
           have a1 : (w1.alloc (.cells #[.string t, .string ⟨#[]⟩] 76)).cell? ⟨X, 1, none⟩ = some (.slice none 0 0) := ((HX.out.below b1).below ((Below.refl _ _).alloc (Nat.le_refl _) _)).cell 1)
        | (go_at_call 58; (with_reducible refine (refcall_any (HX.out.below b1) _).mono ?_); rintro e w2 ⟨rfl, rfl⟩)
        | (go_at_call 13; (with_reducible refine (refused_any (HX.out.below b1)).mono ?_); rintro e w3 ⟨rfl, rfl⟩)
        | (go_at_call 36; (with_reducible refine (refat_any s _).mono ?_); rintro e w4 ⟨rfl, rfl⟩)
        | (at_builtin; refine wpList_append_own _ rfl _ _ 61 rfl 0 76 i0 (.agg #[.string ⟨#[]⟩, .string ⟨#[]⟩]) 2 32 Tryz.underlying61 hi hz0 hz1 hz2 rfl (by decide) (.slice none 0 0) 0 [] rfl (World.ownsRow_nil _ _ _ _) ⟨_, 0, none⟩ 1 1 [.string t, .string ⟨#[]⟩] rfl rfl (two_news _ _ _ 76) (fun u hu => by simp at hu; rcases hu with rfl | rfl <;> rfl) (by decide) (by decide) (Nat.zero_le _) ?_; intro v' w6 hown' hg6 _
           obtain ⟨A6, c6, rfl⟩ := own_1s hown'
           have hx6 : EmptyD X w6 := ((HX.out.below b1).below ((Below.refl _ _).alloc (Nat.le_refl _) _)).grown hg6 (by simp [Value.ownBlock])
           have k6 : w.grownBy w6 (some X) := ((grown_of_below b1 (some X)).trans (grown_alloc _ _ _)).trans (grown_more hg6)
           have a4 := hx6.cell 1
           have af := hx6.free 1))
      have hx0 := hx6.set 1 (.slice A6 1 c6)
      have k0 := k6.trans (grown_set w6 X 1 (.slice A6 1 c6))
      obtain ⟨W0, hW0⟩ : ∃ V, w6.setCell ⟨X, 1, none⟩ (.slice A6 1 c6) = V := ⟨_, rfl⟩
      rw [hW0] at hx0 k0 ⊢
      have hXV : ∀ V, Below W0.heap.size W0 V → Blk X (.cells #[.int .i64 0, .slice A6 1 c6, .slice none 0 0, .slice none 0 0, .slice none 0 0, .bool false, .bool false, .int .i64 0] 65 (0, 0)) V := fun V hb => (Off.of_below hb).blk hx0 (fun h => h)
      have XV := Lib.hid hXV
      have K0 := Lib.hid k0
      have hxl := hx0.lt
      have y1 : W0.drew.cell? ⟨X, 1, none⟩ = some (.slice A6 1 c6) := hx0.cell 1
      have y1b : (W0.drew.alloc (.cells #[.string s, .int .i64 0] 78)).cell? ⟨X, 1, none⟩ = some (.slice A6 1 c6) := (hXV _ (show Kept W0 (W0.drew.alloc _) from Kept.go (Kept.drew (show Kept W0 W0 from Below.refl _ _)) ((Below.refl _ _).alloc (Nat.le_refl _) _))).cell 1
      have hw0 : IntKind.i64.wrap 0 = 0 := by decide
      clear hW0 hx0 k0 k6 hx6 hown' hg6 c0 c1 c2 a1 a4 af hXV hz0 hz1 hz2 hi
      go_region_with (first
        | (go_at_call 41; (with_reducible refine (HDI.out _).mono ?_); rintro e w7 ⟨rfl, b7⟩
           first
             | (have k7 : Kept W0 w7 := Kept.go (Kept.drew (show Kept W0 W0 from Below.refl _ _)) b7
                have y7 := (XV.out w7 k7).cell 1)
             | (have k7 : Kept W0 w7 := Kept.go (Kept.go (Kept.drew (show Kept W0 W0 from Below.refl _ _)) ((Below.refl _ _).alloc (Nat.le_refl _) _)) b7
                have y7 := (XV.out w7 k7).cell 1))
        | (go_at_call 60
           first
             | (have q8 : Kept W0 (w7.alloc (.cells #[.string s, .int .i64 0] 78)) := Kept.go k7 ((Below.refl _ _).alloc (Nat.le_refl _) _)
                have u8 := XV.out _ q8
                have v8 := Blk.new (.cells #[.string s, .int .i64 0] 78 (0, 0)) w7
                have n8 : w7.heap.size ≠ X := by have := k7.size; omega
                with_reducible refine (refchange_any (.slice A6 1 c6) u8 s d v8 n8).mono ?_
                rintro e w9 ⟨rfl, g9⟩
                have gg : w.grownBy w9 (some X) := (K0.out.trans (grown_of_below q8 (some X))).trans g9)
             | (have u8 := XV.out w7 k7
                have v8 : Blk W0.heap.size (.cells #[.string s, .int .i64 0] 78 (0, 0)) w7 := (Off.of_below b7).blk (Blk.new (.cells #[.string s, .int .i64 0] 78 (0, 0)) W0.drew) (fun h => h)
                have n8 : W0.heap.size ≠ X := by omega
                with_reducible refine (refchange_any (.slice A6 1 c6) u8 s d v8 n8).mono ?_
                rintro e w9 ⟨rfl, g9⟩
                have gg : w.grownBy w9 (some X) := (K0.out.trans (grown_of_below k7 (some X))).trans g9)))
      all_goals go_wp2
      all_goals go_ret
      all_goals exact ⟨⟨_, rfl⟩, gg⟩
end Go.Proofs.YtbodkjifpmencaaGreat
