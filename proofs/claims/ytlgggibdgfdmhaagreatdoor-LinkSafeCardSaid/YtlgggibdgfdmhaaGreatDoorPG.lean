/-
  The walk of the document's Safe of layer 4. Conditions: texts of at most a million bytes.
-/
import Derived.Test.YtlgggibdgfdmhaaGreatDoorPF
namespace Go.Proofs.YtlgggibdgfdmhaaGreatDoor
open Go.RowKit
open Go.Lib

theorem mail_ld {c : UInt8} (h : ldB c = true) : mailB c = true := by unfold ldB at h; unfold mailB; rw [h]; rfl
theorem mail_no {c : UInt8} (h : ldB c = false) (h1 : c ≠ 64) (h2 : c ≠ 46) (h3 : c ≠ 95) (h4 : c ≠ 43) (h5 : c ≠ 45) : mailB c = false := by
  unfold ldB at h; unfold mailB; rw [h, beq_eq_false_iff_ne.2 h1, beq_eq_false_iff_ne.2 h2, beq_eq_false_iff_ne.2 h3, beq_eq_false_iff_ne.2 h4, beq_eq_false_iff_ne.2 h5]; rfl
set_option maxRecDepth 100000 in
set_option maxHeartbeats 4000000 in
theorem rsafe_any (l : List UInt8) (w : World) (hs : l.length ≤ 1000000) : Calls Tryz.prog 21 #[.string (bs l)] w fun e w' => e = .returned (.bool (safeL l)) ∧ Below w.heap.size w w' := by
  have hp := rparse_any l w
  have HS := Lib.hid (show safeL l = ((parseL l).isSome || mailOk l) from rfl)
  unfold RPOut lkV aggV at hp
  generalize parseL l = f at *
  have HQ : ∀ W : World, LZ W.heap.size (W.alloc (.cells #[.string ⟨#[]⟩, .string ⟨#[]⟩, .int .i64 0, .string ⟨#[]⟩, .string ⟨#[]⟩, .string ⟨#[]⟩, .bool false, .bool false] 24)) := fun W => Blk.new _ W
  cases f with
  | some lk =>
    simp only [Option.getD_some, Option.isSome_some] at hp
    have HV := Lib.hid (show safeL l = true by rw [HS.out]; rfl)
    go_enter Tryz.func21, Tryz.ntmps21
    go_wp2_with fail
    refine hp.mono ?_
    clear hp
    rintro e w1 ⟨rfl, b1⟩
    have hA2 := HQ w1
    clear HQ
    go_wp2_with (guard_target =~ Go.wpList _ _ _ ({ dst := none, op := Go.Op.store 24 _ _, type := _, pos := _, after := _, guard := none } :: _) _ _; refine st24 rfl rfl hA2 ?_)
    intro w3 hA3 g3
    have B3 : Below w.heap.size w w3 := (b1.alloc b1.size _).grown g3 (by simp; exact Nat.le_succ_of_le b1.size) (fun k hk => by injection hk with hk; have := b1.size; omega)
    clear hA2 hA3 g3
    go_wp2
    go_ret
    exact ⟨ret_bool HV.out.symm, B3⟩
  | none =>
    simp only [Option.getD_none, Option.isSome_none] at hp
    have HZ := Lib.hid (bs_size l)
    have HM := Lib.hid (show safeL l = (decide (8 ≤ l.length) && decide (l.length ≤ 207) && (smallL (l.take 7) == [109, 97, 105, 108, 116, 111, 58]) && (l.drop 7).all mailB) by rw [HS.out]; rfl)
    generalize Lk.zero = lk at *
    go_enter Tryz.func21, Tryz.ntmps21
    go_wp2_with fail
    refine hp.mono ?_
    clear hp
    rintro e w1 ⟨rfl, b1⟩
    have hA2 := HQ w1
    clear HQ
    go_wp2_with (guard_target =~ Go.wpList _ _ _ ({ dst := none, op := Go.Op.store 24 _ _, type := _, pos := _, after := _, guard := none } :: _) _ _; refine st24 rfl rfl hA2 ?_)
    intro w3 hA3 g3
    have B3 : Below w.heap.size w w3 := (b1.alloc b1.size _).grown g3 (by simp; exact Nat.le_succ_of_le b1.size) (fun k hk => by injection hk with hk; have := b1.size; omega)
    clear hA2 hA3 g3
    by_cases h1 : l.length < 8
    · have h1i : ((bs l).size : Int) < 8 := by rw [HZ.out]; omega
      have HV := Lib.hid (show safeL l = false by rw [HM.out, decide_eq_false (by omega)]; rfl)
      go_wp2
      go_ret
      exact ⟨ret_bool HV.out.symm, B3⟩
    have h1i : ¬ ((bs l).size : Int) < 8 := by rw [HZ.out]; omega
    by_cases h2 : 207 < l.length
    · have h2i : (207 : Int) < ((bs l).size : Int) := by rw [HZ.out]; omega
      have HV := Lib.hid (show safeL l = false by rw [HM.out, decide_eq_false (p := l.length ≤ 207) (by omega), Bool.and_false]; rfl)
      go_wp2
      go_ret
      exact ⟨ret_bool HV.out.symm, B3⟩
    have h2i : ¬ (207 : Int) < ((bs l).size : Int) := by rw [HZ.out]; omega
    have HM2 := Lib.hid (show safeL l = ((smallL (l.take 7) == [109, 97, 105, 108, 116, 111, 58]) && (l.drop 7).all mailB) by
      rw [HM.out, decide_eq_true (by omega), decide_eq_true (by omega)]; rfl)
    have st : ∀ W, (Instr.slice 9 (.string (bs l)) none (some (.int .i64 7)) none).run Tryz.prog W = .ok (.string (bs (l.take 7))) W := fun W => sl_to l 7 (by omega) W
    have hlt : (l.take 7).length ≤ 7 := by rw [List.length_take]; omega
    have hsm := fun W => rsmall_any (bs (l.take 7)) W (by rw [bs_size]; omega)
    rw [bs_list] at hsm
    clear HM HS
    generalize smallL (l.take 7) = X at *
    by_cases hx : X = [109, 97, 105, 108, 116, 111, 58]
    · have q : ((bs X).toList == ([109, 97, 105, 108, 116, 111, 58] : List UInt8)) = true := by rw [toL, bs_list, hx]; decide
      have HM3 := Lib.hid (show safeL l = (l.drop 7).all mailB by rw [HM2.out, beq_iff_eq.2 hx, Bool.true_and])
      clear hx HM2
      go_wp2_with fail
      refine (hsm _).mono ?_
      clear hsm st
      rintro e w4 ⟨rfl, b⟩
      have B4 := B3.trans (b.mono B3.size)
      clear b B3
      go_wp2_with fail
      go_loop [5] (fun i => ∃ k : Nat, 7 ≤ k ∧ k ≤ l.length ∧ i = .int .i64 k ∧ Hid (safeL l = (l.drop k).all mailB)) (fun i => l.length - (RowKit.intOf i).toNat)
      case atStart => exact ⟨7, Nat.le_refl _, by omega, rfl, HM3⟩
      case round =>
        obtain ⟨k, hk7, hk, rfl, hall⟩ := hrel
        by_cases hlk : k < l.length
        · have hks : k < (bs l).size := by rw [HZ.out]; omega
          have dlk : decide (k < (bs l).size) = true := by simpa using hks
          have hle := rletter_any (bs l)[k] w4
          have HT := Lib.hid (show safeL l = (mailB (bs l)[k] && (l.drop (k + 1)).all mailB) by rw [hall.out, bs_drop l k hks]; rfl)
          clear hall
          cases hd : ldB (bs l)[k] with
          | true =>
            rw [hd] at hle
            have HV := Lib.hid (show safeL l = (l.drop (k + 1)).all mailB by rw [HT.out, mail_ld hd, Bool.true_and])
            clear hd HT
            go_wp2_with fail
            refine hle.mono ?_
            clear hle
            rintro e w' ⟨rfl, rfl⟩
            go_wp2
            go_round
            case rel => exact ⟨k + 1, by omega, by omega, by go_num, HV⟩
            case measure => simp [RowKit.intOf]; omega
          | false =>
            rw [hd] at hle
            have HD := Lib.hid hd
            clear hd
            by_cases h64 : (bs l)[k] = 64
            · have q64 : (((bs l)[k].toNat : Int) == 64) = true := beqT _ 64 h64
              have r64 : (((bs l)[k].toNat : Int) != 64) = false := by rw [bne, q64]; rfl
              have HV := Lib.hid (show safeL l = (l.drop (k + 1)).all mailB by rw [HT.out, show mailB (bs l)[k] = true by rw [h64]; decide, Bool.true_and])
              clear HT h64
              go_wp2_with fail
              refine hle.mono ?_
              clear hle
              rintro e w' ⟨rfl, rfl⟩
              go_wp2
              go_round
              case rel => exact ⟨k + 1, by omega, by omega, by go_num, HV⟩
              case measure => simp [RowKit.intOf]; omega
            · have q64 : (((bs l)[k].toNat : Int) == 64) = false := beqF _ 64 h64
              have r64 : (((bs l)[k].toNat : Int) != 64) = true := by rw [bne, q64]; rfl
              by_cases h46 : (bs l)[k] = 46
              · have q46 : (((bs l)[k].toNat : Int) == 46) = true := beqT _ 46 h46
                have r46 : (((bs l)[k].toNat : Int) != 46) = false := by rw [bne, q46]; rfl
                have HV := Lib.hid (show safeL l = (l.drop (k + 1)).all mailB by rw [HT.out, show mailB (bs l)[k] = true by rw [h46]; decide, Bool.true_and])
                clear HT h64 h46
                go_wp2_with fail
                refine hle.mono ?_
                clear hle
                rintro e w' ⟨rfl, rfl⟩
                go_wp2
                go_round
                case rel => exact ⟨k + 1, by omega, by omega, by go_num, HV⟩
                case measure => simp [RowKit.intOf]; omega
              · have q46 : (((bs l)[k].toNat : Int) == 46) = false := beqF _ 46 h46
                have r46 : (((bs l)[k].toNat : Int) != 46) = true := by rw [bne, q46]; rfl
                by_cases h95 : (bs l)[k] = 95
                · have q95 : (((bs l)[k].toNat : Int) == 95) = true := beqT _ 95 h95
                  have r95 : (((bs l)[k].toNat : Int) != 95) = false := by rw [bne, q95]; rfl
                  have HV := Lib.hid (show safeL l = (l.drop (k + 1)).all mailB by rw [HT.out, show mailB (bs l)[k] = true by rw [h95]; decide, Bool.true_and])
                  clear HT h64 h46 h95
                  go_wp2_with fail
                  refine hle.mono ?_
                  clear hle
                  rintro e w' ⟨rfl, rfl⟩
                  go_wp2
                  go_round
                  case rel => exact ⟨k + 1, by omega, by omega, by go_num, HV⟩
                  case measure => simp [RowKit.intOf]; omega
                · have q95 : (((bs l)[k].toNat : Int) == 95) = false := beqF _ 95 h95
                  have r95 : (((bs l)[k].toNat : Int) != 95) = true := by rw [bne, q95]; rfl
                  by_cases h43 : (bs l)[k] = 43
                  · have q43 : (((bs l)[k].toNat : Int) == 43) = true := beqT _ 43 h43
                    have r43 : (((bs l)[k].toNat : Int) != 43) = false := by rw [bne, q43]; rfl
                    have HV := Lib.hid (show safeL l = (l.drop (k + 1)).all mailB by rw [HT.out, show mailB (bs l)[k] = true by rw [h43]; decide, Bool.true_and])
                    clear HT h64 h46 h95 h43
                    go_wp2_with fail
                    refine hle.mono ?_
                    clear hle
                    rintro e w' ⟨rfl, rfl⟩
                    go_wp2
                    go_round
                    case rel => exact ⟨k + 1, by omega, by omega, by go_num, HV⟩
                    case measure => simp [RowKit.intOf]; omega
                  · have q43 : (((bs l)[k].toNat : Int) == 43) = false := beqF _ 43 h43
                    have r43 : (((bs l)[k].toNat : Int) != 43) = true := by rw [bne, q43]; rfl
                    by_cases h45 : (bs l)[k] = 45
                    · have q45 : (((bs l)[k].toNat : Int) == 45) = true := beqT _ 45 h45
                      have r45 : (((bs l)[k].toNat : Int) != 45) = false := by rw [bne, q45]; rfl
                      have HV := Lib.hid (show safeL l = (l.drop (k + 1)).all mailB by rw [HT.out, show mailB (bs l)[k] = true by rw [h45]; decide, Bool.true_and])
                      clear HT h64 h46 h95 h43 h45
                      go_wp2_with fail
                      refine hle.mono ?_
                      clear hle
                      rintro e w' ⟨rfl, rfl⟩
                      go_wp2
                      go_round
                      case rel => exact ⟨k + 1, by omega, by omega, by go_num, HV⟩
                      case measure => simp [RowKit.intOf]; omega
                    · have q45 : (((bs l)[k].toNat : Int) == 45) = false := beqF _ 45 h45
                      have r45 : (((bs l)[k].toNat : Int) != 45) = true := by rw [bne, q45]; rfl
                      have HV := Lib.hid (show safeL l = false by rw [HT.out, mail_no HD.out h64 h46 h95 h43 h45]; rfl)
                      clear HT h64 h46 h95 h43 h45
                      go_wp2_with fail
                      refine hle.mono ?_
                      clear hle
                      rintro e w' ⟨rfl, rfl⟩
                      go_wp2
                      go_ret
                      exact ⟨ret_bool HV.out.symm, B4⟩
        · have hks : ¬ k < (bs l).size := by rw [HZ.out]; omega
          have dlk : decide (k < (bs l).size) = false := by simpa using hks
          have HV := Lib.hid (show safeL l = true by rw [hall.out, List.drop_eq_nil_of_le (by omega)]; rfl)
          go_wp2
          go_ret
          exact ⟨ret_bool HV.out.symm, B4⟩
    · have q : ((bs X).toList == ([109, 97, 105, 108, 116, 111, 58] : List UInt8)) = false := by rw [toL, bs_list, beq_eq_false_iff_ne]; exact hx
      have HV := Lib.hid (show safeL l = false by rw [HM2.out, beq_eq_false_iff_ne.2 hx]; rfl)
      clear hx HM2
      go_wp2_with fail
      refine (hsm _).mono ?_
      clear hsm st
      rintro e w4 ⟨rfl, b⟩
      have B4 := B3.trans (b.mono B3.size)
      clear b B3
      go_wp2
      go_ret
      exact ⟨ret_bool HV.out.symm, B4⟩
end Go.Proofs.YtlgggibdgfdmhaaGreatDoor
