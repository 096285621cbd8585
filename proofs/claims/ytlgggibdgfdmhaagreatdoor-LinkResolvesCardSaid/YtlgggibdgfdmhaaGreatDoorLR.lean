/-
  The law LinkResolves of layer 4. Conditions: the library's variables hold what they are laid with.
-/
import Derived.Test.YtlgggibdgfdmhaaGreatDoorQD
import Derived.Test.YtlgggibdgfdmhaaGreatDoorLA
namespace Go.Proofs.YtlgggibdgfdmhaaGreatDoor
open Go.RowKit
open Go.Lib

set_option maxRecDepth 100000 in
set_option maxHeartbeats 4000000 in
theorem law_resolves (a s : ByteArray) (w : World) (hE : Env w) (ha : a.size ≤ maxLen) (_hs : s.size ≤ maxLen) : Calls Tryz.prog 4 #[.string a, .string s] w fun e w' => e = .returned (.bool true) ∧ Below w.heap.size w w' := by
  unfold maxLen at ha
  have hf := first_any w hE
  have hp := fun W hW => parse_any a W hW ha
  have N := neq_self
  have E := eql_self
  have GG := guard_no
  have HQ : ∀ W : World, LZ W.heap.size (W.alloc (.cells #[.string ⟨#[]⟩, .string ⟨#[]⟩, .int .i64 0, .string ⟨#[]⟩, .string ⟨#[]⟩, .string ⟨#[]⟩, .bool false, .bool false] 24)) := fun W => Blk.new _ W
  unfold ParseOut at hp
  cases hpa : parseL a.data.toList with
  | none =>
    rw [hpa] at hp
    simp only [Option.getD_none, Option.isSome_none, Bool.false_eq_true, if_false] at hp
    unfold lkV aggV at hp
    generalize Lk.zero = z at hp
    clear hpa N E GG
    go_enter Tryz.func4, Tryz.ntmps4
    go_wp2_with fail
    refine hf.mono ?_
    clear hf
    rintro e w1 ⟨rfl, B1⟩
    go_wp2_with fail
    refine (hp w1 (hE.below B1)).mono ?_
    rintro e w2 ⟨rfl, b⟩
    have B2 := B1.trans (b.mono B1.size)
    clear b B1
    have hA := HQ w2
    go_wp2_with (guard_target =~ Go.wpList _ _ _ ({ dst := none, op := Go.Op.store 24 _ _, type := _, pos := _, after := _, guard := none } :: _) _ _; refine st24 rfl rfl hA ?_)
    intro w3 hL1 g
    have B3 : Below w.heap.size w w3 := (B2.alloc B2.size _).grown g (by simp; have := B2.size; omega) (fun k hk => by injection hk with hk; have := B2.size; omega)
    clear hA g B2
    clear hp HQ hL1
    go_wp2
    go_ret
    exact ⟨rfl, B3⟩
  | some p =>
    have hI := parseL_some hpa
    have fp := fits_of hI
    have hal : a.size ≤ 2048 := by rw [size_list]; exact hI.2.2
    rw [hpa] at hp
    simp only [Option.getD_some, Option.isSome_some, if_true] at hp
    unfold lkV aggV at hp
    clear hpa hI
    by_cases hbig : 3000 < s.size
    · have h3 : (3000 : Int) < (s.size : Int) := by omega
      have hm : max (a.size : Int) (s.size : Int) = (s.size : Int) := by omega
      clear N E GG
      go_enter Tryz.func4, Tryz.ntmps4
      go_wp2_with fail
      refine hf.mono ?_
      clear hf
      rintro e w1 ⟨rfl, B1⟩
      go_wp2_with fail
      refine (hp w1 (hE.below B1)).mono ?_
      rintro e w2 ⟨rfl, b⟩
      have B2 := B1.trans (b.mono B1.size)
      clear b B1
      have hA := HQ w2
      go_wp2_with (guard_target =~ Go.wpList _ _ _ ({ dst := none, op := Go.Op.store 24 _ _, type := _, pos := _, after := _, guard := none } :: _) _ _; refine st24 rfl rfl hA ?_)
      intro w3 hL1 g
      have B3 : Below w.heap.size w w3 := (B2.alloc B2.size _).grown g (by simp; have := B2.size; omega) (fun k hk => by injection hk with hk; have := B2.size; omega)
      clear hA g B2
      clear hp HQ hL1
      go_wp2
      go_ret
      exact ⟨rfl, B3⟩
    · have h3 : max (a.size : Int) (s.size : Int) ≤ 3000 := by omega
      have hs2 := fun W hW => resolve_any p s W hW fp (by omega) (fun W' => indexAny_sep _ W' (by omega))
      have hr := fun W => rresolve_any p s.data.toList W fp (by rw [← size_list]; omega)
      rw [bs_self] at hr
      unfold ParseOut at hs2
      unfold RPOut at hr
      generalize resolveL p s.data.toList = f at *
      cases f with
      | none =>
        simp only [Option.getD_none, Option.isSome_none, Bool.false_eq_true, if_false] at hs2
        simp only [Option.getD_none, Option.isSome_none] at hr
        unfold lkV aggV at hs2 hr
        generalize Lk.zero = z at hs2 hr
        go_enter Tryz.func4, Tryz.ntmps4
        go_wp2_with fail
        refine hf.mono ?_
        clear hf
        rintro e w1 ⟨rfl, B1⟩
        go_wp2_with fail
        refine (hp w1 (hE.below B1)).mono ?_
        rintro e w2 ⟨rfl, b⟩
        have B2 := B1.trans (b.mono B1.size)
        clear b B1
        have hA := HQ w2
        go_wp2_with (guard_target =~ Go.wpList _ _ _ ({ dst := none, op := Go.Op.store 24 _ _, type := _, pos := _, after := _, guard := none } :: _) _ _; refine st24 rfl rfl hA ?_)
        intro w3 hL1 g
        have B3 : Below w.heap.size w w3 := (B2.alloc B2.size _).grown g (by simp; have := B2.size; omega) (fun k hk => by injection hk with hk; have := B2.size; omega)
        clear hA g B2
        go_wp2_with (guard_target =~ Go.wpList _ _ _ ({ dst := _, op := Go.Op.load 24 _, type := _, pos := _, after := _, guard := none } :: _) _ _; refine ld24 rfl hL1 ?_)
        refine (hs2 w3 (hE.below B3)).mono ?_
        rintro e w4 ⟨rfl, b⟩
        have hL1 := hL1.below b
        have B4 := B3.trans (b.mono B3.size)
        clear b B3
        have hA := HQ w4
        have l_hL1 := hL1.lt
        go_wp2_with (guard_target =~ Go.wpList _ _ _ ({ dst := none, op := Go.Op.store 24 _ _, type := _, pos := _, after := _, guard := none } :: _) _ _; refine st24 rfl rfl hA ?_)
        intro w5 hL2 g
        have hL1 := (hL1.alloc _).grown g (by simp; omega)
        have B5 : Below w.heap.size w w5 := (B4.alloc B4.size _).grown g (by simp; have := B4.size; omega) (fun k hk => by injection hk with hk; have := B4.size; omega)
        clear hA g B4 l_hL1
        go_wp2_with (guard_target =~ Go.wpList _ _ _ ({ dst := _, op := Go.Op.load 24 _, type := _, pos := _, after := _, guard := none } :: _) _ _; refine ld24 rfl hL1 ?_)
        refine (hr w5).mono ?_
        rintro e w6 ⟨rfl, b⟩
        have hL1 := hL1.below b
        have hL2 := hL2.below b
        have B6 := B5.trans (b.mono B5.size)
        clear b B5
        have hA := HQ w6
        have l_hL1 := hL1.lt
        have l_hL2 := hL2.lt
        go_wp2_with (guard_target =~ Go.wpList _ _ _ ({ dst := none, op := Go.Op.store 24 _ _, type := _, pos := _, after := _, guard := none } :: _) _ _; refine st24 rfl rfl hA ?_)
        intro w7 hL3 g
        have hL1 := (hL1.alloc _).grown g (by simp; omega)
        have hL2 := (hL2.alloc _).grown g (by simp; omega)
        have B7 : Below w.heap.size w w7 := (B6.alloc B6.size _).grown g (by simp; have := B6.size; omega) (fun k hk => by injection hk with hk; have := B6.size; omega)
        clear hA g B6 l_hL1 l_hL2
        clear hp hs2 hr HQ hL1
        go_wp2_with (guard_target =~ Go.wpList _ _ _ ({ dst := _, op := Go.Op.load 24 _, type := _, pos := _, after := _, guard := none } :: _) _ _; first | refine ld24 rfl hL2 ?_ | refine ld24 rfl hL3 ?_)
        go_ret
        exact ⟨ret_bool rfl, B7⟩
      | some q =>
        simp only [Option.getD_some, Option.isSome_some, if_true] at hs2
        simp only [Option.getD_some, Option.isSome_some] at hr
        unfold lkV aggV at hs2 hr
        go_enter Tryz.func4, Tryz.ntmps4
        go_wp2_with fail
        refine hf.mono ?_
        clear hf
        rintro e w1 ⟨rfl, B1⟩
        go_wp2_with fail
        refine (hp w1 (hE.below B1)).mono ?_
        rintro e w2 ⟨rfl, b⟩
        have B2 := B1.trans (b.mono B1.size)
        clear b B1
        have hA := HQ w2
        go_wp2_with (guard_target =~ Go.wpList _ _ _ ({ dst := none, op := Go.Op.store 24 _ _, type := _, pos := _, after := _, guard := none } :: _) _ _; refine st24 rfl rfl hA ?_)
        intro w3 hL1 g
        have B3 : Below w.heap.size w w3 := (B2.alloc B2.size _).grown g (by simp; have := B2.size; omega) (fun k hk => by injection hk with hk; have := B2.size; omega)
        clear hA g B2
        go_wp2_with (guard_target =~ Go.wpList _ _ _ ({ dst := _, op := Go.Op.load 24 _, type := _, pos := _, after := _, guard := none } :: _) _ _; refine ld24 rfl hL1 ?_)
        refine (hs2 w3 (hE.below B3)).mono ?_
        rintro e w4 ⟨rfl, b⟩
        have hL1 := hL1.below b
        have B4 := B3.trans (b.mono B3.size)
        clear b B3
        have hA := HQ w4
        have l_hL1 := hL1.lt
        go_wp2_with (guard_target =~ Go.wpList _ _ _ ({ dst := none, op := Go.Op.store 24 _ _, type := _, pos := _, after := _, guard := none } :: _) _ _; refine st24 rfl rfl hA ?_)
        intro w5 hL2 g
        have hL1 := (hL1.alloc _).grown g (by simp; omega)
        have B5 : Below w.heap.size w w5 := (B4.alloc B4.size _).grown g (by simp; have := B4.size; omega) (fun k hk => by injection hk with hk; have := B4.size; omega)
        clear hA g B4 l_hL1
        go_wp2_with (guard_target =~ Go.wpList _ _ _ ({ dst := _, op := Go.Op.load 24 _, type := _, pos := _, after := _, guard := none } :: _) _ _; refine ld24 rfl hL1 ?_)
        refine (hr w5).mono ?_
        rintro e w6 ⟨rfl, b⟩
        have hL1 := hL1.below b
        have hL2 := hL2.below b
        have B6 := B5.trans (b.mono B5.size)
        clear b B5
        have hA := HQ w6
        have l_hL1 := hL1.lt
        have l_hL2 := hL2.lt
        go_wp2_with (guard_target =~ Go.wpList _ _ _ ({ dst := none, op := Go.Op.store 24 _ _, type := _, pos := _, after := _, guard := none } :: _) _ _; refine st24 rfl rfl hA ?_)
        intro w7 hL3 g
        have hL1 := (hL1.alloc _).grown g (by simp; omega)
        have hL2 := (hL2.alloc _).grown g (by simp; omega)
        have B7 : Below w.heap.size w w7 := (B6.alloc B6.size _).grown g (by simp; have := B6.size; omega) (fun k hk => by injection hk with hk; have := B6.size; omega)
        clear hA g B6 l_hL1 l_hL2
        clear hp hs2 hr HQ hL1
        go_wp2_with (guard_target =~ Go.wpList _ _ _ ({ dst := _, op := Go.Op.load 24 _, type := _, pos := _, after := _, guard := none } :: _) _ _; first | refine ld24 rfl hL2 ?_ | refine ld24 rfl hL3 ?_)
        go_ret
        exact ⟨ret_bool rfl, B7⟩
end Go.Proofs.YtlgggibdgfdmhaaGreatDoor
