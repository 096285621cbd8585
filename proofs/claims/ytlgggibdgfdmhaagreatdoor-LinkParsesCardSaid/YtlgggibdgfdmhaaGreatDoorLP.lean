/-
  The law LinkParses of layer 4. Conditions: the library's variables hold what they are laid with.
-/
import Derived.Test.YtlgggibdgfdmhaaGreatDoorPF
import Derived.Test.YtlgggibdgfdmhaaGreatDoorLA
namespace Go.Proofs.YtlgggibdgfdmhaaGreatDoor
open Go.RowKit
open Go.Lib

set_option maxRecDepth 100000 in
set_option maxHeartbeats 4000000 in
theorem law_parses (s : ByteArray) (w : World) (hE : Env w) (hs : s.size ≤ maxLen) : Calls Tryz.prog 3 #[.string s] w fun e w' => e = .returned (.bool true) ∧ Below w.heap.size w w' := by
  unfold maxLen at hs
  have hf := first_any w hE
  by_cases hbig : 4000 < s.size
  · have h2 : (4000 : Int) < (s.size : Int) := by omega
    go_enter Tryz.func3, Tryz.ntmps3
    go_wp2_with fail
    refine hf.mono ?_
    clear hf
    rintro e w1 ⟨rfl, B1⟩
    go_wp2
    go_ret
    exact ⟨rfl, B1⟩
  · have h2 : ¬ (4000 : Int) < (s.size : Int) := by omega
    have hp := fun W hW => parse_any s W hW hs
    have hr := fun W => rparse_any s.data.toList W
    rw [bs_self] at hr
    unfold ParseOut lkV aggV at hp
    unfold RPOut lkV aggV at hr
    have HI := Lib.hid (fun p (h : parseL s.data.toList = some p) => parseL_some h)
    have N := neq_self
    have E := eql_self
    have GG := guard_no
    have HQ : ∀ W : World, LZ W.heap.size (W.alloc (.cells #[.string ⟨#[]⟩, .string ⟨#[]⟩, .int .i64 0, .string ⟨#[]⟩, .string ⟨#[]⟩, .string ⟨#[]⟩, .bool false, .bool false] 24)) := fun W => Blk.new _ W
    generalize parseL s.data.toList = f at *
    clear hbig
    cases f with
    | none =>
      simp only [Option.getD_none, Option.isSome_none, Bool.false_eq_true, if_false] at hp
      simp only [Option.getD_none, Option.isSome_none] at hr
      have z1 : bs Lk.zero.scheme = ⟨#[]⟩ := rfl
      have z2 : bs Lk.zero.host = ⟨#[]⟩ := rfl
      have z3 : Lk.zero.port = 0 := rfl
      have z4 : bs Lk.zero.path = ⟨#[]⟩ := rfl
      have z5 : bs Lk.zero.query = ⟨#[]⟩ := rfl
      have z6 : bs Lk.zero.frag = ⟨#[]⟩ := rfl
      have z7 : Lk.zero.hasQ = false := rfl
      have z8 : Lk.zero.hasF = false := rfl
      rw [z1, z2, z3, z4, z5, z6, z7, z8] at hp hr
      clear z1 z2 z3 z4 z5 z6 z7 z8 HI
      go_enter Tryz.func3, Tryz.ntmps3
      go_wp2_with fail
      refine hf.mono ?_
      clear hf
      rintro e w1 ⟨rfl, B1⟩
      go_wp2_with fail
      refine (hp w1 (hE.below B1)).mono ?_
      rintro e w2 ⟨rfl, b⟩
      have B2 := B1.trans (b.mono B1.size)
      clear b B1
      have hA := HQ w2
      go_wp2_with (guard_target =~ Go.wpList _ _ _ ({ dst := none, op := Go.Op.store 24 _ _, type := _, pos := _, after := _, guard := none } :: _) _ _; refine st24 rfl rfl hA ?_)
      intro w3 hL1 g
      have B3 : Below w.heap.size w w3 := (B2.alloc B2.size _).grown g (by simp; have := B2.size; omega) (fun k hk => by injection hk with hk; have := B2.size; omega)
      clear hA g B2
      go_wp2_with fail
      refine (hr w3).mono ?_
      rintro e w4 ⟨rfl, b⟩
      have hL1 := hL1.below b
      have B4 := B3.trans (b.mono B3.size)
      clear b B3
      have hA := HQ w4
      have l0 := hL1.lt
      go_wp2_with (guard_target =~ Go.wpList _ _ _ ({ dst := none, op := Go.Op.store 24 _ _, type := _, pos := _, after := _, guard := none } :: _) _ _; refine st24 rfl rfl hA ?_)
      intro w5 hL2 g
      have hL1 := (hL1.alloc _).grown g (by simp; omega)
      have B5 : Below w.heap.size w w5 := (B4.alloc B4.size _).grown g (by simp; have := B4.size; omega) (fun k hk => by injection hk with hk; have := B4.size; omega)
      clear hA g B4 l0 hp hr HQ
      go_wp2_with (first | (guard_target =~ Go.wpList _ _ _ ({ dst := _, op := Go.Op.load 24 _, type := _, pos := _, after := _, guard := none } :: _) _ _; first | refine ld24 rfl hL1 ?_ | refine ld24 rfl hL2 ?_) | (guard_target =~ Go.wpList _ _ _ ({ dst := _, op := Go.Op.load 24 _, type := _, pos := _, after := _, guard := some _ } :: _) _ _; refine ld24w rfl rfl hL1 ?_))
      go_ret
      exact ⟨rfl, B5⟩
    | some p =>
      simp only [Option.getD_some, Option.isSome_some, if_true] at hp
      simp only [Option.getD_some, Option.isSome_some] at hr
      have hI := HI.out p rfl
      have hpr := fun W hW => print_any p W hW (fits_of hI)
      rw [← hI.1, bs_self] at hpr
      unfold lkV aggV at hpr
      clear hI HI
      have e1 : (s.toList == s.toList) = true := by simp
      go_enter Tryz.func3, Tryz.ntmps3
      go_wp2_with fail
      refine hf.mono ?_
      clear hf
      rintro e w1 ⟨rfl, B1⟩
      go_wp2_with fail
      refine (hp w1 (hE.below B1)).mono ?_
      rintro e w2 ⟨rfl, b⟩
      have B2 := B1.trans (b.mono B1.size)
      clear b B1
      have hA := HQ w2
      go_wp2_with (guard_target =~ Go.wpList _ _ _ ({ dst := none, op := Go.Op.store 24 _ _, type := _, pos := _, after := _, guard := none } :: _) _ _; refine st24 rfl rfl hA ?_)
      intro w3 hL1 g
      have B3 : Below w.heap.size w w3 := (B2.alloc B2.size _).grown g (by simp; have := B2.size; omega) (fun k hk => by injection hk with hk; have := B2.size; omega)
      clear hA g B2
      go_wp2_with fail
      refine (hr w3).mono ?_
      rintro e w4 ⟨rfl, b⟩
      have hL1 := hL1.below b
      have B4 := B3.trans (b.mono B3.size)
      clear b B3
      have hA := HQ w4
      have l0 := hL1.lt
      go_wp2_with (guard_target =~ Go.wpList _ _ _ ({ dst := none, op := Go.Op.store 24 _ _, type := _, pos := _, after := _, guard := none } :: _) _ _; refine st24 rfl rfl hA ?_)
      intro w5 hL2 g
      have hL1 := (hL1.alloc _).grown g (by simp; omega)
      have B5 : Below w.heap.size w w5 := (B4.alloc B4.size _).grown g (by simp; have := B4.size; omega) (fun k hk => by injection hk with hk; have := B4.size; omega)
      clear hA g B4 l0 hp hr HQ
      go_wp2_with (first | (guard_target =~ Go.wpList _ _ _ ({ dst := _, op := Go.Op.load 24 _, type := _, pos := _, after := _, guard := none } :: _) _ _; first | refine ld24 rfl hL1 ?_ | refine ld24 rfl hL2 ?_) | (guard_target =~ Go.wpList _ _ _ ({ dst := _, op := Go.Op.load 24 _, type := _, pos := _, after := _, guard := some _ } :: _) _ _; refine ld24w rfl rfl hL1 ?_))
      refine (hpr w5 (hE.below B5)).mono ?_
      rintro e w6 ⟨rfl, b⟩
      have B6 := B5.trans (b.mono B5.size)
      go_wp2
      go_ret
      exact ⟨rfl, B6⟩
end Go.Proofs.YtlgggibdgfdmhaaGreatDoor
