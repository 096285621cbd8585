/-
  The walk of the document's Resolve of layer 4. Conditions: parts and texts of at most a hundred thousand bytes.
-/
import Derived.Test.YtlgggibdgfdmhaaGreatDoorQC
import Derived.Deep.DeepCutAuto
import Derived.Deep.CutBlock
namespace Go.Proofs.YtlgggibdgfdmhaaGreatDoor
open Go.RowKit
open Go.Lib

/-- The link that is handed over, the result's cell, and what was there. -/
structure RS (w0 : World) (p : Lk) (w : World) : Prop where
  a : LB w0.heap.size (bs p.scheme) (bs p.host) p.port (bs p.path) (bs p.query) (bs p.frag) p.hasQ p.hasF w
  r : LZ (w0.heap.size + 1) w
  b : Below w0.heap.size w0 w
section
variable {w0 : World} {p : Lk} {w w' : World}
theorem RS.call (H : RS w0 p w) (hb : Below w.heap.size w w') : RS w0 p w' :=
  ⟨LB.below H.a hb, LB.below H.r hb, H.b.trans (hb.mono H.b.size)⟩
theorem RS.out (H : RS w0 p w) (g : w.grownBy w' (some (w0.heap.size + 1))) : Below w0.heap.size w0 w' :=
  H.b.grown g H.b.size (fun k hk => by injection hk with hk; omega)
theorem RS.drew (H : RS w0 p w) : RS w0 p w.drew := ⟨H.a, H.r, H.b.trans ⟨rfl, rfl, rfl, Nat.le_refl _, fun _ _ => rfl⟩⟩
end
theorem rs_new (w : World) (p : Lk) (w1 : World) (b1 : Below ((w.alloc (.cells #[.string (bs p.scheme), .string (bs p.host), .int .i64 p.port, .string (bs p.path), .string (bs p.query), .string (bs p.frag), .bool p.hasQ, .bool p.hasF] 24)).alloc (.cells #[.string ⟨#[]⟩, .string ⟨#[]⟩, .int .i64 0, .string ⟨#[]⟩, .string ⟨#[]⟩, .string ⟨#[]⟩, .bool false, .bool false] 24)).heap.size ((w.alloc (.cells #[.string (bs p.scheme), .string (bs p.host), .int .i64 p.port, .string (bs p.path), .string (bs p.query), .string (bs p.frag), .bool p.hasQ, .bool p.hasF] 24)).alloc (.cells #[.string ⟨#[]⟩, .string ⟨#[]⟩, .int .i64 0, .string ⟨#[]⟩, .string ⟨#[]⟩, .string ⟨#[]⟩, .bool false, .bool false] 24)) w1) : RS w p w1 := by
  have h1 : LB w.heap.size (bs p.scheme) (bs p.host) p.port (bs p.path) (bs p.query) (bs p.frag) p.hasQ p.hasF (w.alloc (.cells #[.string (bs p.scheme), .string (bs p.host), .int .i64 p.port, .string (bs p.path), .string (bs p.query), .string (bs p.frag), .bool p.hasQ, .bool p.hasF] 24)) := Blk.new _ w
  have h2 : LZ (w.alloc (.cells #[.string (bs p.scheme), .string (bs p.host), .int .i64 p.port, .string (bs p.path), .string (bs p.query), .string (bs p.frag), .bool p.hasQ, .bool p.hasF] 24)).heap.size ((w.alloc (.cells #[.string (bs p.scheme), .string (bs p.host), .int .i64 p.port, .string (bs p.path), .string (bs p.query), .string (bs p.frag), .bool p.hasQ, .bool p.hasF] 24)).alloc (.cells #[.string ⟨#[]⟩, .string ⟨#[]⟩, .int .i64 0, .string ⟨#[]⟩, .string ⟨#[]⟩, .string ⟨#[]⟩, .bool false, .bool false] 24)) := Blk.new _ _
  have e : (w.alloc (.cells #[.string (bs p.scheme), .string (bs p.host), .int .i64 p.port, .string (bs p.path), .string (bs p.query), .string (bs p.frag), .bool p.hasQ, .bool p.hasF] 24)).heap.size = w.heap.size + 1 := by simp
  rw [e] at h2
  refine ⟨LB.below (Blk.alloc h1 _) b1, LB.below h2 b1, ?_⟩
  exact ((((Below.refl _ _).alloc (Nat.le_refl _) _).alloc (by simp) _).trans (b1.mono (by simp; omega)))
set_option maxRecDepth 100000 in
set_option maxHeartbeats 8000000 in
theorem rresolve_any (p : Lk) (l : List UInt8) (w : World) (hf : Fits p) (hl : l.length ≤ 100000) : Calls Tryz.prog 15 #[lkV p, .string (bs l)] w (RPOut (resolveL p l) w) := by
  have hu := fun W => until_b l [58, 47, 63, 35] W (by omega) (by decide)
  have HSC := Lib.hid (has_until l)
  have hn := until_le l [58, 47, 63, 35]
  have HZ := Lib.hid (bs_size l)
  have k1 : p.scheme.length ≤ 100000 := hf.sch
  have k2 : p.path.length ≤ 100000 := hf.path
  have k3 : p.query.length ≤ 100000 := hf.query
  have k4 := root_length p hf
  generalize untilL l [58, 47, 63, 35] = n at *
  unfold lkV aggV
  go_enter Tryz.func15, Tryz.ntmps15
  go_wp2_with fail
  refine (hu _).mono ?_
  clear hu
  rintro e w1 ⟨rfl, b⟩
  have S1 := rs_new w p w1 b
  clear b
  go_upto_region 2 with fail
  go_cut [40] (fun c wx => wx = w1 ∧ ((c = .bool true ∧ Hid (hasSch l = true)) ∨ (c = .bool false ∧ Hid (hasSch l = false))))
  case first =>
    as_aux_lemma =>
      by_cases g1 : 0 < n
      · have d1 : (0 : Int) < (n : Int) := by omega
        by_cases g2 : n < l.length
        · have hks : n < (bs l).size := by rw [HZ.out]; exact g2
          have d2 : (n : Int) < ((bs l).size : Int) := by omega
          have h0 : 0 < (bs l).size := by omega
          have HH := Lib.hid (head_get l h0)
          have HG := Lib.hid (show l[n]? = some (bs l)[n] from getE? (bs l) n hks)
          have HS2 := Lib.hid (show hasSch l = (((bs l)[n] == 58) && letB (bs l)[0]) by rw [HSC.out, HG.out, HH.out, decide_eq_true ⟨g1, g2⟩]; rfl)
          clear HSC HH HG
          by_cases g3 : (bs l)[n] = 58
          · have q3 : (((bs l)[n].toNat : Int) == 58) = true := beqT _ 58 g3
            have HS3 := Lib.hid (show hasSch l = letB (bs l)[0] by rw [HS2.out, g3]; rfl)
            clear HS2 g3
            have hle := rletter_any (bs l)[0] w1
            have hc8 := UInt8.toNat_lt (bs l)[0]
            cases hlb : letB (bs l)[0] with
            | true =>
              obtain ⟨e1, e2, e3⟩ := let_ld hlb
              rw [e1] at hle
              have HV := Lib.hid (show hasSch l = true by rw [HS3.out, hlb])
              have e2i : ¬ ((bs l)[0].toNat : Int) < 48 := by omega
              have e3i : (57 : Int) < ((bs l)[0].toNat : Int) := by omega
              clear hlb HS3 e1
              go_wp2_with fail
              refine hle.mono ?_
              clear hle
              rintro e w' ⟨rfl, rfl⟩
              go_wp2_with fail
              go_meet
              exact ⟨rfl, .inl ⟨rfl, HV⟩⟩
            | false =>
              have HV := Lib.hid (show hasSch l = false by rw [HS3.out, hlb])
              cases hld : ldB (bs l)[0] with
              | true =>
                obtain ⟨e2, e3⟩ := ld_dgt hlb hld
                rw [hld] at hle
                have e2i : ¬ ((bs l)[0].toNat : Int) < 48 := by omega
                have e3i : ¬ (57 : Int) < ((bs l)[0].toNat : Int) := by omega
                have e4 : (decide (((bs l)[0].toNat : Int) < 48) || decide ((57 : Int) < ((bs l)[0].toNat : Int))) = false := by rw [decide_eq_false e2i, decide_eq_false e3i]; rfl
                clear hlb HS3 hld
                go_wp2_with fail
                refine hle.mono ?_
                clear hle
                rintro e w' ⟨rfl, rfl⟩
                go_wp2_with fail
                go_meet
                exact ⟨rfl, .inr ⟨rfl, HV⟩⟩
              | false =>
                rw [hld] at hle
                clear hlb HS3 hld
                go_wp2_with fail
                refine hle.mono ?_
                clear hle
                rintro e w' ⟨rfl, rfl⟩
                go_wp2_with fail
                go_meet
                exact ⟨rfl, .inr ⟨rfl, HV⟩⟩
          · have q3 : (((bs l)[n].toNat : Int) == 58) = false := beqF _ 58 g3
            have HV := Lib.hid (show hasSch l = false by rw [HS2.out, beq_eq_false_iff_ne.2 g3]; rfl)
            clear HS2 g3
            go_wp2_with fail
            go_meet
            exact ⟨rfl, .inr ⟨rfl, HV⟩⟩
        · have d2 : ¬ (n : Int) < ((bs l).size : Int) := by rw [HZ.out]; omega
          have HV := Lib.hid (show hasSch l = false by rw [HSC.out, decide_eq_false (fun h => g2 h.2)]; rfl)
          clear HSC
          go_wp2_with fail
          go_meet
          exact ⟨rfl, .inr ⟨rfl, HV⟩⟩
      · have d1 : ¬ (0 : Int) < (n : Int) := by omega
        have HV := Lib.hid (show hasSch l = false by rw [HSC.out, decide_eq_false (fun h => g1 h.1)]; rfl)
        clear HSC
        go_wp2_with fail
        go_meet
        exact ⟨rfl, .inr ⟨rfl, HV⟩⟩
  case rest =>
    obtain ⟨hw, hc⟩ := hcut
    obtain ⟨w2, hw2⟩ : ∃ W, W = wc := ⟨_, rfl⟩
    subst hw2
    subst hw
    clear HSC hn
    rcases hc with ⟨rfl, H1⟩ | ⟨rfl, H1⟩
    · have HV := Lib.hid (res1 (p := p) H1.out)
      as_aux_lemma =>
        have hp := fun W => rparse_any (l) W
        have HO := Lib.hid (fun w' (hb : Below w.heap.size w w') => show RPOut (resolveL p l) w (.returned (.tuple #[lkV ((parseL l).getD Lk.zero), .bool (parseL l).isSome])) w' from ⟨by rw [HV.out], hb⟩)
        unfold RPOut lkV aggV at hp
        unfold lkV aggV at HO
        generalize (parseL l).getD Lk.zero = q at hp HO
        generalize (parseL l).isSome = ok at hp HO
        clear HV
        go_wp2_with fail
        refine (hp _).mono ?_
        clear hp
        rintro e w9 ⟨rfl, b9⟩
        have S9 := S1.call b9
        clear b9 S1
        go_wp2_with (guard_target =~ Go.wpList _ _ _ ({ dst := none, op := Go.Op.store 24 _ _, type := _, pos := _, after := _, guard := none } :: _) _ _; refine st24 rfl rfl S9.r ?_)
        intro wz hz gz
        go_wp2
        exact bodyPost_ret (by simp [results, Tryz.results15, go_sem, LB.c0 hz, LB.c1 hz, LB.c2 hz, LB.c3 hz, LB.c4 hz, LB.c5 hz, LB.c6 hz, LB.c7 hz]) rfl (HO.out _ (S9.out gz))
    · go_upto_region 4 with fail
      go_cut [52] (fun c wx => wx = w2 ∧ ((c = .bool true ∧ Hid (([47, 47] : List UInt8).isPrefixOf l = true)) ∨ (c = .bool false ∧ Hid (([47, 47] : List UInt8).isPrefixOf l = false))))
      case first =>
        as_aux_lemma =>
          by_cases g1 : 1 < l.length
          · have d1 : (1 : Int) < ((bs l).size : Int) := by rw [HZ.out]; omega
            have st : ∀ W, (Instr.slice 9 (.string (bs l)) none (some (.int .i64 2)) none).run Tryz.prog W = .ok (.string (bs (l.take 2))) W := fun W => sl_to l 2 (by omega) W
            have HP := Lib.hid (pre2 l)
            generalize l.take 2 = X at *
            by_cases hx : X = [47, 47]
            · have q : ((bs X).toList == ([47, 47] : List UInt8)) = true := by rw [toL, bs_list, hx]; decide
              have HV := Lib.hid (show ([47, 47] : List UInt8).isPrefixOf l = true by rw [HP.out, hx]; decide)
              clear hx HP
              go_wp2_with fail
              go_meet
              exact ⟨rfl, .inl ⟨rfl, HV⟩⟩
            · have q : ((bs X).toList == ([47, 47] : List UInt8)) = false := by rw [toL, bs_list, beq_eq_false_iff_ne]; exact hx
              have HV := Lib.hid (show ([47, 47] : List UInt8).isPrefixOf l = false by rw [HP.out, beq_eq_false_iff_ne]; exact hx)
              clear hx HP
              go_wp2_with fail
              go_meet
              exact ⟨rfl, .inr ⟨rfl, HV⟩⟩
          · have d1 : ¬ (1 : Int) < ((bs l).size : Int) := by rw [HZ.out]; omega
            have HV := Lib.hid (show ([47, 47] : List UInt8).isPrefixOf l = false by
              rw [pre2, beq_eq_false_iff_ne]
              intro h
              have := congrArg List.length h
              rw [List.length_take] at this
              simp at this
              omega)
            go_wp2_with fail
            go_meet
            exact ⟨rfl, .inr ⟨rfl, HV⟩⟩
      case rest =>
        obtain ⟨hw, hc⟩ := hcut
        obtain ⟨w3, hw3⟩ : ∃ W, W = wc := ⟨_, rfl⟩
        subst hw3
        subst hw
        rcases hc with ⟨rfl, H2⟩ | ⟨rfl, H2⟩
        · have HV := Lib.hid (res2 (p := p) H1.out H2.out)
          as_aux_lemma =>
            have hp := fun W => rdotted_any (p.scheme ++ [58] ++ l) W
            have HO := Lib.hid (fun w' (hb : Below w.heap.size w w') => show RPOut (resolveL p l) w (.returned (.tuple #[lkV (((parseL (p.scheme ++ [58] ++ l)).map dotL).getD Lk.zero), .bool ((parseL (p.scheme ++ [58] ++ l)).map dotL).isSome])) w' from ⟨by rw [HV.out], hb⟩)
            unfold RPOut lkV aggV at hp
            unfold lkV aggV at HO
            generalize ((parseL (p.scheme ++ [58] ++ l)).map dotL).getD Lk.zero = q at hp HO
            generalize ((parseL (p.scheme ++ [58] ++ l)).map dotL).isSome = ok at hp HO
            clear HV
            have a1 := add_bs p.scheme [58] _ rfl (by simp; omega)
            have a2 := add_bs (p.scheme ++ [58]) l _ rfl (by simp; omega)
            rw [show bs [58] = ⟨#[58]⟩ from rfl] at a1
            generalize p.scheme ++ [58] ++ l = X2 at *
            generalize p.scheme ++ [58] = X1 at *
            have c0 := S1.a.c0
            go_wp2_with fail
            refine (hp _).mono ?_
            clear hp
            rintro e w9 ⟨rfl, b9⟩
            have S9 := S1.call b9
            clear b9 S1
            go_wp2_with (guard_target =~ Go.wpList _ _ _ ({ dst := none, op := Go.Op.store 24 _ _, type := _, pos := _, after := _, guard := none } :: _) _ _; refine st24 rfl rfl S9.r ?_)
            intro wz hz gz
            go_wp2
            exact bodyPost_ret (by simp [results, Tryz.results15, go_sem, LB.c0 hz, LB.c1 hz, LB.c2 hz, LB.c3 hz, LB.c4 hz, LB.c5 hz, LB.c6 hz, LB.c7 hz]) rfl (HO.out _ (S9.out gz))
        · go_upto_region 6 with fail
          go_cut [68] (fun c wx => wx = w3 ∧ ((c = .bool true ∧ Hid (([47] : List UInt8).isPrefixOf l = true)) ∨ (c = .bool false ∧ Hid (([47] : List UInt8).isPrefixOf l = false))))
          case first =>
            as_aux_lemma =>
              by_cases g1 : 0 < (bs l).size
              · have d1 : (0 : Int) < ((bs l).size : Int) := by omega
                have HH := Lib.hid (head_get l g1)
                by_cases g2 : (bs l)[0] = 47
                · have q1 : (((bs l)[0].toNat : Int) == 47) = true := beqT _ 47 g2
                  have HV := Lib.hid (show ([47] : List UInt8).isPrefixOf l = true by rw [pre1, HH.out, g2]; rfl)
                  clear g2 HH
                  go_wp2_with fail
                  go_meet
                  exact ⟨rfl, .inl ⟨rfl, HV⟩⟩
                · have q1 : (((bs l)[0].toNat : Int) == 47) = false := beqF _ 47 g2
                  have HV := Lib.hid (show ([47] : List UInt8).isPrefixOf l = false by rw [pre1, HH.out, beq_eq_false_iff_ne]; exact fun h => g2 (Option.some.inj h))
                  clear g2 HH
                  go_wp2_with fail
                  go_meet
                  exact ⟨rfl, .inr ⟨rfl, HV⟩⟩
              · have d1 : ¬ (0 : Int) < ((bs l).size : Int) := by omega
                have HV := Lib.hid (show ([47] : List UInt8).isPrefixOf l = false by
                  rw [HZ.out] at g1
                  rw [List.eq_nil_of_length_eq_zero (by omega : l.length = 0)]; rfl)
                go_wp2_with fail
                go_meet
                exact ⟨rfl, .inr ⟨rfl, HV⟩⟩
          case rest =>
            obtain ⟨hw, hc⟩ := hcut
            obtain ⟨w4, hw4⟩ : ∃ W, W = wc := ⟨_, rfl⟩
            subst hw4
            subst hw
            rcases hc with ⟨rfl, H3⟩ | ⟨rfl, H3⟩
            · have HV := Lib.hid (res3 (p := p) H1.out H2.out H3.out)
              as_aux_lemma =>
                have hp := fun W => rdotted_any (rootL p ++ l) W
                have HO := Lib.hid (fun w' (hb : Below w.heap.size w w') => show RPOut (resolveL p l) w (.returned (.tuple #[lkV (((parseL (rootL p ++ l)).map dotL).getD Lk.zero), .bool ((parseL (rootL p ++ l)).map dotL).isSome])) w' from ⟨by rw [HV.out], hb⟩)
                unfold RPOut lkV aggV at hp
                unfold lkV aggV at HO
                generalize ((parseL (rootL p ++ l)).map dotL).getD Lk.zero = q at hp HO
                generalize ((parseL (rootL p ++ l)).map dotL).isSome = ok at hp HO
                clear HV
                have a1 := add_bs (rootL p) l _ rfl (by omega)
                generalize rootL p ++ l = X1 at *
                have hor := fun W => rorigin_any p W hf (Nat.le_trans hf.port (by decide))
                unfold lkV aggV at hor
                go_wp2_with (guard_target =~ Go.wpList _ _ _ ({ dst := _, op := Go.Op.load 24 _, type := _, pos := _, after := _, guard := none } :: _) _ _; refine ld24 rfl S1.a ?_)
                refine (hor _).mono ?_
                clear hor
                rintro e w8 ⟨rfl, b9⟩
                have S2 := S1.call b9
                clear b9 S1
                go_wp2_with fail
                refine (hp _).mono ?_
                clear hp
                rintro e w9 ⟨rfl, b9⟩
                have S9 := S2.call b9
                clear b9 S2
                go_wp2_with (guard_target =~ Go.wpList _ _ _ ({ dst := none, op := Go.Op.store 24 _ _, type := _, pos := _, after := _, guard := none } :: _) _ _; refine st24 rfl rfl S9.r ?_)
                intro wz hz gz
                go_wp2
                exact bodyPost_ret (by simp [results, Tryz.results15, go_sem, LB.c0 hz, LB.c1 hz, LB.c2 hz, LB.c3 hz, LB.c4 hz, LB.c5 hz, LB.c6 hz, LB.c7 hz]) rfl (HO.out _ (S9.out gz))
            · have c6 := S1.a.c6
              go_upto_if 77 with fail
              clear c6
              go_cut [0, 7] (fun _ s wx => wx = w4 ∧ s = .string (bs (markL p.hasQ 63 p.query)))
              case first =>
                as_aux_lemma =>
                  have a1 := add_bs [63] p.query _ rfl (by simp; omega)
                  rw [show bs [63] = ⟨#[63]⟩ from rfl, show ([63] : List UInt8) ++ p.query = 63 :: p.query from rfl] at a1
                  have c4 := S1.a.c4
                  cases hq : p.hasQ with
                  | true =>
                    have HM := Lib.hid (show markL p.hasQ 63 p.query = 63 :: p.query by unfold markL; rw [if_pos hq])
                    clear hq
                    go_wp2_with fail
                    go_meet
                    exact ⟨rfl, by rw [HM.out]⟩
                  | false =>
                    have HM := Lib.hid (show markL p.hasQ 63 p.query = [] by unfold markL; rw [if_neg (by rw [hq]; decide)])
                    clear hq
                    go_wp2_with fail
                    go_meet
                    exact ⟨rfl, by rw [HM.out]; rfl⟩
              case rest =>
                obtain ⟨hw, hc⟩ := hcut
                obtain ⟨w5, hw5⟩ : ∃ W, W = wc := ⟨_, rfl⟩
                subst hw5
                subst hw
                subst hc
                go_upto_region 11 with fail
                go_cut [87] (fun c wx => wx = w5 ∧ ((c = .bool true ∧ Hid ((l.isEmpty || l.head? == some 35) = true)) ∨ (c = .bool false ∧ Hid ((l.isEmpty || l.head? == some 35) = false) ∧ 0 < (bs l).size)))
                case first =>
                  as_aux_lemma =>
                    by_cases g1 : 0 < (bs l).size
                    · have d1 : (0 : Int) < ((bs l).size : Int) := by omega
                      have HH := Lib.hid (head_get l g1)
                      have HE := Lib.hid (show l.isEmpty = false by
                        rw [HZ.out] at g1
                        cases l with
                        | nil => exact absurd g1 (by simp)
                        | cons => rfl)
                      have q0 : ((bs l).toList == ([] : List UInt8)) = false := by
                        rw [toL, bs_list, beq_eq_false_iff_ne]
                        intro h
                        rw [HZ.out, h] at g1
                        exact absurd g1 (by simp)
                      by_cases g2 : (bs l)[0] = 35
                      · have q1 : (((bs l)[0].toNat : Int) == 35) = true := beqT _ 35 g2
                        have HV := Lib.hid (show (l.isEmpty || l.head? == some 35) = true by rw [HE.out, HH.out, g2]; rfl)
                        clear g2 HH HE
                        go_wp2_with fail
                        go_meet
                        exact ⟨rfl, .inl ⟨rfl, HV⟩⟩
                      · have q1 : (((bs l)[0].toNat : Int) == 35) = false := beqF _ 35 g2
                        have HV := Lib.hid (show (l.isEmpty || l.head? == some 35) = false by rw [HE.out, HH.out, Bool.false_or, beq_eq_false_iff_ne]; exact fun h => g2 (Option.some.inj h))
                        clear g2 HH HE
                        go_wp2_with fail
                        go_meet
                        exact ⟨rfl, .inr ⟨rfl, HV, g1⟩⟩
                    · have HL := Lib.hid (show l = [] by
                        rw [HZ.out] at g1
                        exact List.eq_nil_of_length_eq_zero (by omega : l.length = 0))
                      have q0 : ((bs l).toList == ([] : List UInt8)) = true := by rw [toL, bs_list, HL.out]; rfl
                      have HV := Lib.hid (show (l.isEmpty || l.head? == some 35) = true by rw [HL.out]; rfl)
                      go_wp2_with fail
                      go_meet
                      exact ⟨rfl, .inl ⟨rfl, HV⟩⟩
                case rest =>
                  obtain ⟨hw, hc⟩ := hcut
                  obtain ⟨w6, hw6⟩ : ∃ W, W = wc := ⟨_, rfl⟩
                  subst hw6
                  subst hw
                  rcases hc with ⟨rfl, H4⟩ | ⟨rfl, H4, h0⟩
                  · have HV := Lib.hid (res4 (p := p) H1.out H2.out H3.out H4.out)
                    as_aux_lemma =>
                      have kml : (markL p.hasQ 63 p.query).length ≤ 100001 := by unfold markL; split <;> simp <;> omega
                      have a1 := add_bs (rootL p) p.path _ rfl (by omega)
                      have a2 := add_bs (rootL p ++ p.path) (markL p.hasQ 63 p.query) _ rfl (by simp only [List.length_append]; omega)
                      have a3 := add_bs (rootL p ++ p.path ++ markL p.hasQ 63 p.query) l _ rfl (by simp only [List.length_append]; omega)
                      have hp := fun W => rparse_any (rootL p ++ p.path ++ markL p.hasQ 63 p.query ++ l) W
                      have HO := Lib.hid (fun w' (hb : Below w.heap.size w w') => show RPOut (resolveL p l) w (.returned (.tuple #[lkV ((parseL (rootL p ++ p.path ++ markL p.hasQ 63 p.query ++ l)).getD Lk.zero), .bool (parseL (rootL p ++ p.path ++ markL p.hasQ 63 p.query ++ l)).isSome])) w' from ⟨by rw [HV.out], hb⟩)
                      unfold RPOut lkV aggV at hp
                      unfold lkV aggV at HO
                      generalize (parseL (rootL p ++ p.path ++ markL p.hasQ 63 p.query ++ l)).getD Lk.zero = q at hp HO
                      generalize (parseL (rootL p ++ p.path ++ markL p.hasQ 63 p.query ++ l)).isSome = ok at hp HO
                      clear HV
                      generalize rootL p ++ p.path ++ markL p.hasQ 63 p.query ++ l = X3 at *
                      generalize rootL p ++ p.path ++ markL p.hasQ 63 p.query = X2 at *
                      generalize rootL p ++ p.path = X1 at *
                      generalize markL p.hasQ 63 p.query = M at *
                      have hor := fun W => rorigin_any p W hf (Nat.le_trans hf.port (by decide))
                      unfold lkV aggV at hor
                      have R0 := S1.drew
                      go_wp2_with fail
                      refine wp_region_held_drew (S := fun w' => LB w.heap.size (bs p.scheme) (bs p.host) p.port (bs p.path) (bs p.query) (bs p.frag) p.hasQ p.hasF w') (by kernel_rfl) R0.a (fun hHeld => ?_)
                      refine wpAnyH_take (i := 0) (v := .agg #[.string (bs p.scheme), .string (bs p.host), .int .i64 p.port, .string (bs p.path), .string (bs p.query), .string (bs p.frag), .bool p.hasQ, .bool p.hasF]) rfl (by kernel_rfl) (by kernel_rfl) (by kernel_rfl) (fun _ _ _ h => h) (yieldsIf_load_mid (by rfl) _ _ rfl w.heap.size 0 rfl [.string (bs p.scheme), .string (bs p.host), .int .i64 p.port, .string (bs p.path), .string (bs p.query), .string (bs p.frag), .bool p.hasQ, .bool p.hasF] _ (fun _ h => LB.range h) Tryz.underlying24 rfl (by kernel_rfl)) (by assumption) ?_
                      change wpAnyH _ _ _ _ _ _ _ (Act.put _ (some 88) _) _
                      simp only [Act.put, List.setIfInBounds_toArray, List.set_cons_zero, List.set_cons_succ]
                      refine wpAnyH_take (i := 2) (v := ?v1) rfl (by kernel_rfl) (by kernel_rfl) (by kernel_rfl) (fun _ _ _ h => h) (Or.inl ⟨by rfl, ?y1⟩) (by assumption) ?r1
                      case y1 => (intro W hSw; go_simp <;> with_reducible rfl)
                      change wpAnyH _ _ _ _ _ _ _ (Act.put _ (some 90) _) _
                      simp only [Act.put, List.setIfInBounds_toArray, List.set_cons_zero, List.set_cons_succ]
                      refine wpAnyH_take (i := 3) (v := ?v2) rfl (by kernel_rfl) (by kernel_rfl) (by kernel_rfl) (fun _ _ _ h => h) (Or.inl ⟨by rfl, ?y2⟩) (by assumption) ?r2
                      case y2 => (intro W hSw; have hc := LB.c3 hSw; go_simp <;> with_reducible rfl)
                      change wpAnyH _ _ _ _ _ _ _ (Act.put _ (some 91) _) _
                      simp only [Act.put, List.setIfInBounds_toArray, List.set_cons_zero, List.set_cons_succ]
                      refine wpAnyH_take (i := 5) (v := ?v3) rfl (by kernel_rfl) (by kernel_rfl) (by kernel_rfl) (fun _ _ _ h => h) (Or.inl ⟨by rfl, ?y3⟩) (by assumption) ?r3
                      case y3 => (intro W hSw; go_simp <;> with_reducible rfl)
                      change wpAnyH _ _ _ _ _ _ _ (Act.put _ (some 93) _) _
                      simp only [Act.put, List.setIfInBounds_toArray, List.set_cons_zero, List.set_cons_succ]
                      refine wpAnyH_take (i := 7) (v := ?v4) rfl (by kernel_rfl) (by kernel_rfl) (by kernel_rfl) (fun _ _ _ h => h) (Or.inl ⟨by rfl, ?y4⟩) (by assumption) ?r4
                      case y4 => (intro W hSw; go_simp <;> with_reducible rfl)
                      change wpAnyH _ _ _ _ _ _ _ (Act.put _ (some 95) _) _
                      simp only [Act.put, List.setIfInBounds_toArray, List.set_cons_zero, List.set_cons_succ]
                      refine wpAnyH_ready (rs := [1]) (by kernel_rfl) (by simp) ?_
                      refine AllReadyH.cons rfl (fun K hK => ?_) AllReadyH.nil
                      go_simp
                      refine (hor _).mono ?_
                      rintro e wa ⟨rfl, ba⟩
                      have R1 := R0.call ba
                      refine hK.out _ _ R1.a (fun hH1 => ?_)
                      clear hK K hHeld ba
                      refine wpAnyH_take (i := 4) (v := ?v5) rfl (by kernel_rfl) (by kernel_rfl) (by kernel_rfl) (fun _ _ _ h => h) (Or.inl ⟨by rfl, ?y5⟩) (by assumption) ?r5
                      case y5 => (intro W hSw; go_simp <;> with_reducible rfl)
                      change wpAnyH _ _ _ _ _ _ _ (Act.put _ (some 92) _) _
                      simp only [Act.put, List.setIfInBounds_toArray, List.set_cons_zero, List.set_cons_succ]
                      refine wpAnyH_take (i := 6) (v := ?v6) rfl (by kernel_rfl) (by kernel_rfl) (by kernel_rfl) (fun _ _ _ h => h) (Or.inl ⟨by rfl, ?y6⟩) (by assumption) ?r6
                      case y6 => (intro W hSw; go_simp <;> with_reducible rfl)
                      change wpAnyH _ _ _ _ _ _ _ (Act.put _ (some 94) _) _
                      simp only [Act.put, List.setIfInBounds_toArray, List.set_cons_zero, List.set_cons_succ]
                      refine wpAnyH_take (i := 8) (v := ?v7) rfl (by kernel_rfl) (by kernel_rfl) (by kernel_rfl) (fun _ _ _ h => h) (Or.inl ⟨by rfl, ?y7⟩) (by assumption) ?r7
                      case y7 => (intro W hSw; go_simp <;> with_reducible rfl)
                      change wpAnyH _ _ _ _ _ _ _ (Act.put _ (some 96) _) _
                      simp only [Act.put, List.setIfInBounds_toArray, List.set_cons_zero, List.set_cons_succ]
                      refine wpAnyH_ready (rs := [9]) (by kernel_rfl) (by simp) ?_
                      refine AllReadyH.cons rfl (fun K hK => ?_) AllReadyH.nil
                      go_simp
                      refine (hp _).mono ?_
                      rintro e wb ⟨rfl, bb⟩
                      have R2 := R1.call bb
                      refine hK.out _ _ R2.a (fun hH2 => ?_)
                      clear hK K hH1 bb
                      refine wpAnyH_take (i := 10) (v := ?v8) rfl (by kernel_rfl) (by kernel_rfl) (by kernel_rfl) (fun _ _ _ h => h) (Or.inl ⟨by rfl, ?y8⟩) (by assumption) ?r8
                      case y8 => (intro W hSw; go_simp <;> with_reducible rfl)
                      change wpAnyH _ _ _ _ _ _ _ (Act.put _ (some 98) _) _
                      simp only [Act.put, List.setIfInBounds_toArray, List.set_cons_zero, List.set_cons_succ]
                      refine wpAnyH_take (i := 11) (v := ?v9) rfl (by kernel_rfl) (by kernel_rfl) (by kernel_rfl) (fun _ _ _ h => h) (Or.inl ⟨by rfl, ?y9⟩) (by assumption) ?r9
                      case y9 => (intro W hSw; go_simp <;> with_reducible rfl)
                      change wpAnyH _ _ _ _ _ _ _ (Act.put _ (some 99) _) _
                      simp only [Act.put, List.setIfInBounds_toArray, List.set_cons_zero, List.set_cons_succ]
                      refine wpAnyH_ready (rs := [12]) (by kernel_rfl) (by simp) ?_
                      refine AllReadyH.cons rfl (fun K hK => ?_) AllReadyH.nil
                      have gz := grown_sets (w.heap.size + 1) [.string (bs q.scheme), .string (bs q.host), .int .i64 q.port, .string (bs q.path), .string (bs q.query), .string (bs q.frag), .bool q.hasQ, .bool q.hasF] 0 wb
                      have hz := LB.stored R2.r (bs q.scheme) (bs q.host) q.port (bs q.path) (bs q.query) (bs q.frag) q.hasQ q.hasF
                      refine wp_store_mid _ _ _ rfl (w.heap.size + 1) 0 #[.string (bs q.scheme), .string (bs q.host), .int .i64 q.port, .string (bs q.path), .string (bs q.query), .string (bs q.frag), .bool q.hasQ, .bool q.hasF] rfl rfl (LB.there R2.r) (by kernel_rfl) (one8 _ _ _ _ _ _ _ _) ?_
                      refine hK.out _ _ (LB.grown R2.a gz (by simp)) (fun hHz => ?_)
                      clear hK K
                      refine wpAnyH_take (i := 13) (v := ?v10) rfl (by kernel_rfl) (by kernel_rfl) (by kernel_rfl) (fun _ _ _ h => h) (Or.inl ⟨by rfl, ?y10⟩) (by assumption) ?r10
                      case y10 => (intro W hSw; go_simp <;> with_reducible rfl)
                      change wpAnyH _ _ _ _ _ _ _ (Act.put _ (some 5) _) _
                      simp only [Act.put, List.setIfInBounds_toArray]
                      refine wpAnyH_done (by kernel_rfl) ?_ _
                      go_wp2
                      generalize wb.setCells (w.heap.size + 1) 0 [.string (bs q.scheme), .string (bs q.host), .int .i64 q.port, .string (bs q.path), .string (bs q.query), .string (bs q.frag), .bool q.hasQ, .bool q.hasF] = wz at hz gz ⊢
                      refine bodyPost_ret (v := (.tuple #[.agg #[.string (bs q.scheme), .string (bs q.host), .int .i64 q.port, .string (bs q.path), .string (bs q.query), .string (bs q.frag), .bool q.hasQ, .bool q.hasF], .bool ok])) ?_ rfl (HO.out _ (R2.out gz))
                      have c0 := LB.c0 hz
                      have c1 := LB.c1 hz
                      have c2 := LB.c2 hz
                      have c3 := LB.c3 hz
                      have c4 := LB.c4 hz
                      have c5 := LB.c5 hz
                      have c6 := LB.c6 hz
                      have c7 := LB.c7 hz
                      clear hor hp R0 R1 R2 hH2 HO gz hHz
                      as_aux_lemma => simp [results, Tryz.results15, go_sem, c0, c1, c2, c3, c4, c5, c6, c7]
                  · have HH := Lib.hid (head_get l h0)
                    have h0i : (0 : Int) < ((bs l).size : Int) := by omega
                    by_cases h63 : (bs l)[0] = 63
                    · have q1 : (((bs l)[0].toNat : Int) == 63) = true := beqT _ 63 h63
                      have HV := Lib.hid (res5 (p := p) H1.out H2.out H3.out H4.out (by rw [HH.out, h63]))
                      clear h63 HH
                      as_aux_lemma =>
                        have a1 := add_bs (rootL p) p.path _ rfl (by omega)
                        have a2 := add_bs (rootL p ++ p.path) l _ rfl (by simp only [List.length_append]; omega)
                        have hp := fun W => rparse_any (rootL p ++ p.path ++ l) W
                        have HO := Lib.hid (fun w' (hb : Below w.heap.size w w') => show RPOut (resolveL p l) w (.returned (.tuple #[lkV ((parseL (rootL p ++ p.path ++ l)).getD Lk.zero), .bool (parseL (rootL p ++ p.path ++ l)).isSome])) w' from ⟨by rw [HV.out], hb⟩)
                        unfold RPOut lkV aggV at hp
                        unfold lkV aggV at HO
                        generalize (parseL (rootL p ++ p.path ++ l)).getD Lk.zero = q at hp HO
                        generalize (parseL (rootL p ++ p.path ++ l)).isSome = ok at hp HO
                        clear HV
                        generalize rootL p ++ p.path ++ l = X2 at *
                        generalize rootL p ++ p.path = X1 at *
                        have hor := fun W => rorigin_any p W hf (Nat.le_trans hf.port (by decide))
                        unfold lkV aggV at hor
                        have R0 := S1.drew
                        go_wp2_with fail
                        refine wp_region_held_drew (S := fun w' => LB w.heap.size (bs p.scheme) (bs p.host) p.port (bs p.path) (bs p.query) (bs p.frag) p.hasQ p.hasF w') (by kernel_rfl) R0.a (fun hHeld => ?_)
                        refine wpAnyH_take (i := 0) (v := .agg #[.string (bs p.scheme), .string (bs p.host), .int .i64 p.port, .string (bs p.path), .string (bs p.query), .string (bs p.frag), .bool p.hasQ, .bool p.hasF]) rfl (by kernel_rfl) (by kernel_rfl) (by kernel_rfl) (fun _ _ _ h => h) (yieldsIf_load_mid (by rfl) _ _ rfl w.heap.size 0 rfl [.string (bs p.scheme), .string (bs p.host), .int .i64 p.port, .string (bs p.path), .string (bs p.query), .string (bs p.frag), .bool p.hasQ, .bool p.hasF] _ (fun _ h => LB.range h) Tryz.underlying24 rfl (by kernel_rfl)) (by assumption) ?_
                        change wpAnyH _ _ _ _ _ _ _ (Act.put _ (some 103) _) _
                        simp only [Act.put, List.setIfInBounds_toArray, List.set_cons_zero, List.set_cons_succ]
                        refine wpAnyH_take (i := 2) (v := ?v11) rfl (by kernel_rfl) (by kernel_rfl) (by kernel_rfl) (fun _ _ _ h => h) (Or.inl ⟨by rfl, ?y11⟩) (by assumption) ?r11
                        case y11 => (intro W hSw; go_simp <;> with_reducible rfl)
                        change wpAnyH _ _ _ _ _ _ _ (Act.put _ (some 105) _) _
                        simp only [Act.put, List.setIfInBounds_toArray, List.set_cons_zero, List.set_cons_succ]
                        refine wpAnyH_take (i := 3) (v := ?v12) rfl (by kernel_rfl) (by kernel_rfl) (by kernel_rfl) (fun _ _ _ h => h) (Or.inl ⟨by rfl, ?y12⟩) (by assumption) ?r12
                        case y12 => (intro W hSw; have hc := LB.c3 hSw; go_simp <;> with_reducible rfl)
                        change wpAnyH _ _ _ _ _ _ _ (Act.put _ (some 106) _) _
                        simp only [Act.put, List.setIfInBounds_toArray, List.set_cons_zero, List.set_cons_succ]
                        refine wpAnyH_take (i := 5) (v := ?v13) rfl (by kernel_rfl) (by kernel_rfl) (by kernel_rfl) (fun _ _ _ h => h) (Or.inl ⟨by rfl, ?y13⟩) (by assumption) ?r13
                        case y13 => (intro W hSw; go_simp <;> with_reducible rfl)
                        change wpAnyH _ _ _ _ _ _ _ (Act.put _ (some 108) _) _
                        simp only [Act.put, List.setIfInBounds_toArray, List.set_cons_zero, List.set_cons_succ]
                        refine wpAnyH_ready (rs := [1]) (by kernel_rfl) (by simp) ?_
                        refine AllReadyH.cons rfl (fun K hK => ?_) AllReadyH.nil
                        go_simp
                        refine (hor _).mono ?_
                        rintro e wa ⟨rfl, ba⟩
                        have R1 := R0.call ba
                        refine hK.out _ _ R1.a (fun hH1 => ?_)
                        clear hK K hHeld ba
                        refine wpAnyH_take (i := 4) (v := ?v14) rfl (by kernel_rfl) (by kernel_rfl) (by kernel_rfl) (fun _ _ _ h => h) (Or.inl ⟨by rfl, ?y14⟩) (by assumption) ?r14
                        case y14 => (intro W hSw; go_simp <;> with_reducible rfl)
                        change wpAnyH _ _ _ _ _ _ _ (Act.put _ (some 107) _) _
                        simp only [Act.put, List.setIfInBounds_toArray, List.set_cons_zero, List.set_cons_succ]
                        refine wpAnyH_take (i := 6) (v := ?v15) rfl (by kernel_rfl) (by kernel_rfl) (by kernel_rfl) (fun _ _ _ h => h) (Or.inl ⟨by rfl, ?y15⟩) (by assumption) ?r15
                        case y15 => (intro W hSw; go_simp <;> with_reducible rfl)
                        change wpAnyH _ _ _ _ _ _ _ (Act.put _ (some 109) _) _
                        simp only [Act.put, List.setIfInBounds_toArray, List.set_cons_zero, List.set_cons_succ]
                        refine wpAnyH_ready (rs := [7]) (by kernel_rfl) (by simp) ?_
                        refine AllReadyH.cons rfl (fun K hK => ?_) AllReadyH.nil
                        go_simp
                        refine (hp _).mono ?_
                        rintro e wb ⟨rfl, bb⟩
                        have R2 := R1.call bb
                        refine hK.out _ _ R2.a (fun hH2 => ?_)
                        clear hK K hH1 bb
                        refine wpAnyH_take (i := 8) (v := ?v16) rfl (by kernel_rfl) (by kernel_rfl) (by kernel_rfl) (fun _ _ _ h => h) (Or.inl ⟨by rfl, ?y16⟩) (by assumption) ?r16
                        case y16 => (intro W hSw; go_simp <;> with_reducible rfl)
                        change wpAnyH _ _ _ _ _ _ _ (Act.put _ (some 111) _) _
                        simp only [Act.put, List.setIfInBounds_toArray, List.set_cons_zero, List.set_cons_succ]
                        refine wpAnyH_take (i := 9) (v := ?v17) rfl (by kernel_rfl) (by kernel_rfl) (by kernel_rfl) (fun _ _ _ h => h) (Or.inl ⟨by rfl, ?y17⟩) (by assumption) ?r17
                        case y17 => (intro W hSw; go_simp <;> with_reducible rfl)
                        change wpAnyH _ _ _ _ _ _ _ (Act.put _ (some 112) _) _
                        simp only [Act.put, List.setIfInBounds_toArray, List.set_cons_zero, List.set_cons_succ]
                        refine wpAnyH_ready (rs := [10]) (by kernel_rfl) (by simp) ?_
                        refine AllReadyH.cons rfl (fun K hK => ?_) AllReadyH.nil
                        have gz := grown_sets (w.heap.size + 1) [.string (bs q.scheme), .string (bs q.host), .int .i64 q.port, .string (bs q.path), .string (bs q.query), .string (bs q.frag), .bool q.hasQ, .bool q.hasF] 0 wb
                        have hz := LB.stored R2.r (bs q.scheme) (bs q.host) q.port (bs q.path) (bs q.query) (bs q.frag) q.hasQ q.hasF
                        refine wp_store_mid _ _ _ rfl (w.heap.size + 1) 0 #[.string (bs q.scheme), .string (bs q.host), .int .i64 q.port, .string (bs q.path), .string (bs q.query), .string (bs q.frag), .bool q.hasQ, .bool q.hasF] rfl rfl (LB.there R2.r) (by kernel_rfl) (one8 _ _ _ _ _ _ _ _) ?_
                        refine hK.out _ _ (LB.grown R2.a gz (by simp)) (fun hHz => ?_)
                        clear hK K
                        refine wpAnyH_take (i := 11) (v := ?v18) rfl (by kernel_rfl) (by kernel_rfl) (by kernel_rfl) (fun _ _ _ h => h) (Or.inl ⟨by rfl, ?y18⟩) (by assumption) ?r18
                        case y18 => (intro W hSw; go_simp <;> with_reducible rfl)
                        change wpAnyH _ _ _ _ _ _ _ (Act.put _ (some 5) _) _
                        simp only [Act.put, List.setIfInBounds_toArray]
                        refine wpAnyH_done (by kernel_rfl) ?_ _
                        go_wp2
                        generalize wb.setCells (w.heap.size + 1) 0 [.string (bs q.scheme), .string (bs q.host), .int .i64 q.port, .string (bs q.path), .string (bs q.query), .string (bs q.frag), .bool q.hasQ, .bool q.hasF] = wz at hz gz ⊢
                        refine bodyPost_ret (v := (.tuple #[.agg #[.string (bs q.scheme), .string (bs q.host), .int .i64 q.port, .string (bs q.path), .string (bs q.query), .string (bs q.frag), .bool q.hasQ, .bool q.hasF], .bool ok])) ?_ rfl (HO.out _ (R2.out gz))
                        have c0 := LB.c0 hz
                        have c1 := LB.c1 hz
                        have c2 := LB.c2 hz
                        have c3 := LB.c3 hz
                        have c4 := LB.c4 hz
                        have c5 := LB.c5 hz
                        have c6 := LB.c6 hz
                        have c7 := LB.c7 hz
                        clear hor hp R0 R1 R2 hH2 HO gz hHz
                        as_aux_lemma => simp [results, Tryz.results15, go_sem, c0, c1, c2, c3, c4, c5, c6, c7]
                    · have q1 : (((bs l)[0].toNat : Int) == 63) = false := beqF _ 63 h63
                      have HV0 := Lib.hid (res6 (p := p) H1.out H2.out H3.out H4.out (by rw [HH.out]; exact fun h => h63 (Option.some.inj h)))
                      clear h63 HH
                      as_aux_lemma =>
                        have c3 := S1.a.c3
                        have HZP := Lib.hid (bs_size p.path)
                        go_wp2_with fail
                        go_loop [8, 9] (fun m i => ∃ k mn : Nat, k ≤ p.path.length ∧ i = .int .i64 k ∧ m = .int .i64 mn ∧ mn ≤ k ∧ Hid (mn = slashN (p.path.take k))) (fun _ i => p.path.length - (RowKit.intOf i).toNat)
                        case atStart => exact ⟨0, 0, Nat.zero_le _, rfl, rfl, Nat.le_refl _, by show _ = _; rfl⟩
                        case round =>
                          obtain ⟨k, mn, hk, rfl, rfl, hmk, hac⟩ := hrel
                          by_cases hlk : k < p.path.length
                          · have hks : k < (bs p.path).size := by rw [HZP.out]; omega
                            have dlk : decide (k < (bs p.path).size) = true := by simpa using hks
                            have HT := Lib.hid (bs_take p.path k hks)
                            have hll : (p.path.take k).length = k := by rw [List.length_take]; omega
                            have HL := Lib.hid hll
                            clear hll
                            by_cases g : (bs p.path)[k] = 47
                            · have q2 : (((bs p.path)[k].toNat : Int) == 47) = true := beqT _ 47 g
                              have HN := Lib.hid (show k + 1 = slashN (p.path.take (k + 1)) by rw [HT.out, g, slash_hit, HL.out])
                              clear g HT HL hac
                              go_wp2
                              go_round
                              case rel => exact ⟨k + 1, k + 1, by omega, by go_num, by go_num, Nat.le_refl _, HN⟩
                              case measure => simp [RowKit.intOf]; omega
                            · have q2 : (((bs p.path)[k].toNat : Int) == 47) = false := beqF _ 47 g
                              have HN := Lib.hid (show mn = slashN (p.path.take (k + 1)) by rw [HT.out, slash_more _ _ g]; exact hac.out)
                              clear g HT HL hac
                              go_wp2
                              go_round
                              case rel => exact ⟨k + 1, mn, by omega, by go_num, rfl, by omega, HN⟩
                              case measure => simp [RowKit.intOf]; omega
                          · have hks : ¬ k < (bs p.path).size := by rw [HZP.out]; omega
                            have dlk : decide (k < (bs p.path).size) = false := by simpa using hks
                            have HM := Lib.hid (show mn = slashN p.path by have h := hac.out; rwa [List.take_of_length_le (by omega)] at h)
                            have hmp : mn ≤ p.path.length := by omega
                            clear hac hlk
                            by_cases g : mn = 0
                            · have HV := Lib.hid (show resolveL p l = (parseL (rootL p ++ [47] ++ l)).map dotL by rw [HV0.out, folder_slash, ← HM.out, if_pos g])
                              subst g
                              clear HV0 HM
                              as_aux_lemma =>
                                have hp := fun W => rdotted_any (rootL p ++ [47] ++ l) W
                                have HO := Lib.hid (fun w' (hb : Below w.heap.size w w') => show RPOut (resolveL p l) w (.returned (.tuple #[lkV (((parseL (rootL p ++ [47] ++ l)).map dotL).getD Lk.zero), .bool ((parseL (rootL p ++ [47] ++ l)).map dotL).isSome])) w' from ⟨by rw [HV.out], hb⟩)
                                unfold RPOut lkV aggV at hp
                                unfold lkV aggV at HO
                                generalize ((parseL (rootL p ++ [47] ++ l)).map dotL).getD Lk.zero = q at hp HO
                                generalize ((parseL (rootL p ++ [47] ++ l)).map dotL).isSome = ok at hp HO
                                clear HV
                                have a1 := add_bs (rootL p) [47] _ rfl (by simp; omega)
                                have a2 := add_bs (rootL p ++ [47]) l _ rfl (by simp; omega)
                                rw [show bs [47] = ⟨#[47]⟩ from rfl] at a1
                                generalize rootL p ++ [47] ++ l = X2 at *
                                generalize rootL p ++ [47] = X1 at *
                                have hor := fun W => rorigin_any p W hf (Nat.le_trans hf.port (by decide))
                                unfold lkV aggV at hor
                                go_wp2_with (guard_target =~ Go.wpList _ _ _ ({ dst := _, op := Go.Op.load 24 _, type := _, pos := _, after := _, guard := none } :: _) _ _; refine ld24 rfl S1.a ?_)
                                refine (hor _).mono ?_
                                clear hor
                                rintro e w8 ⟨rfl, b9⟩
                                have S2 := S1.call b9
                                clear b9 S1
                                go_wp2_with fail
                                refine (hp _).mono ?_
                                clear hp
                                rintro e w9 ⟨rfl, b9⟩
                                have S9 := S2.call b9
                                clear b9 S2
                                go_wp2_with (guard_target =~ Go.wpList _ _ _ ({ dst := none, op := Go.Op.store 24 _ _, type := _, pos := _, after := _, guard := none } :: _) _ _; refine st24 rfl rfl S9.r ?_)
                                intro wz hz gz
                                go_wp2
                                exact bodyPost_ret (by simp [results, Tryz.results15, go_sem, LB.c0 hz, LB.c1 hz, LB.c2 hz, LB.c3 hz, LB.c4 hz, LB.c5 hz, LB.c6 hz, LB.c7 hz]) rfl (HO.out _ (S9.out gz))
                            · have q2 : ((mn : Int) == 0) = false := by rw [beq_eq_false_iff_ne]; omega
                              have HV := Lib.hid (show resolveL p l = (parseL (rootL p ++ p.path.take mn ++ l)).map dotL by rw [HV0.out, folder_slash, ← HM.out, if_neg g])
                              clear HV0 HM g
                              as_aux_lemma =>
                                have hp := fun W => rdotted_any (rootL p ++ p.path.take mn ++ l) W
                                have HO := Lib.hid (fun w' (hb : Below w.heap.size w w') => show RPOut (resolveL p l) w (.returned (.tuple #[lkV (((parseL (rootL p ++ p.path.take mn ++ l)).map dotL).getD Lk.zero), .bool ((parseL (rootL p ++ p.path.take mn ++ l)).map dotL).isSome])) w' from ⟨by rw [HV.out], hb⟩)
                                unfold RPOut lkV aggV at hp
                                unfold lkV aggV at HO
                                generalize ((parseL (rootL p ++ p.path.take mn ++ l)).map dotL).getD Lk.zero = q at hp HO
                                generalize ((parseL (rootL p ++ p.path.take mn ++ l)).map dotL).isSome = ok at hp HO
                                clear HV
                                have st := fun W => sl_to p.path mn hmp W
                                have ktl : (p.path.take mn).length ≤ 100000 := by rw [List.length_take]; omega
                                have a1 := add_bs (rootL p) (p.path.take mn) _ rfl (by omega)
                                have a2 := add_bs (rootL p ++ p.path.take mn) l _ rfl (by simp only [List.length_append]; omega)
                                generalize rootL p ++ p.path.take mn ++ l = X2 at *
                                generalize rootL p ++ p.path.take mn = X1 at *
                                generalize p.path.take mn = D at *
                                have hor := fun W => rorigin_any p W hf (Nat.le_trans hf.port (by decide))
                                unfold lkV aggV at hor
                                have R0 := S1.drew
                                go_wp2_with fail
                                refine wp_region_held_drew (S := fun w' => LB w.heap.size (bs p.scheme) (bs p.host) p.port (bs p.path) (bs p.query) (bs p.frag) p.hasQ p.hasF w') (by kernel_rfl) R0.a (fun hHeld => ?_)
                                refine wpAnyH_take (i := 0) (v := .agg #[.string (bs p.scheme), .string (bs p.host), .int .i64 p.port, .string (bs p.path), .string (bs p.query), .string (bs p.frag), .bool p.hasQ, .bool p.hasF]) rfl (by kernel_rfl) (by kernel_rfl) (by kernel_rfl) (fun _ _ _ h => h) (yieldsIf_load_mid (by rfl) _ _ rfl w.heap.size 0 rfl [.string (bs p.scheme), .string (bs p.host), .int .i64 p.port, .string (bs p.path), .string (bs p.query), .string (bs p.frag), .bool p.hasQ, .bool p.hasF] _ (fun _ h => LB.range h) Tryz.underlying24 rfl (by kernel_rfl)) (by assumption) ?_
                                change wpAnyH _ _ _ _ _ _ _ (Act.put _ (some 137) _) _
                                simp only [Act.put, List.setIfInBounds_toArray, List.set_cons_zero, List.set_cons_succ]
                                refine wpAnyH_take (i := 2) (v := ?v19) rfl (by kernel_rfl) (by kernel_rfl) (by kernel_rfl) (fun _ _ _ h => h) (Or.inl ⟨by rfl, ?y19⟩) (by assumption) ?r19
                                case y19 => (intro W hSw; go_simp <;> with_reducible rfl)
                                change wpAnyH _ _ _ _ _ _ _ (Act.put _ (some 139) _) _
                                simp only [Act.put, List.setIfInBounds_toArray, List.set_cons_zero, List.set_cons_succ]
                                refine wpAnyH_take (i := 3) (v := ?v20) rfl (by kernel_rfl) (by kernel_rfl) (by kernel_rfl) (fun _ _ _ h => h) (Or.inl ⟨by rfl, ?y20⟩) (by assumption) ?r20
                                case y20 => (intro W hSw; have hc := LB.c3 hSw; go_simp <;> with_reducible rfl)
                                change wpAnyH _ _ _ _ _ _ _ (Act.put _ (some 140) _) _
                                simp only [Act.put, List.setIfInBounds_toArray, List.set_cons_zero, List.set_cons_succ]
                                refine wpAnyH_take (i := 4) (v := ?v21) rfl (by kernel_rfl) (by kernel_rfl) (by kernel_rfl) (fun _ _ _ h => h) (Or.inl ⟨by rfl, ?y21⟩) (by assumption) ?r21
                                case y21 => (intro W hSw; go_simp <;> with_reducible rfl)
                                change wpAnyH _ _ _ _ _ _ _ (Act.put _ (some 141) _) _
                                simp only [Act.put, List.setIfInBounds_toArray, List.set_cons_zero, List.set_cons_succ]
                                refine wpAnyH_take (i := 5) (v := ?v22) rfl (by kernel_rfl) (by kernel_rfl) (by kernel_rfl) (fun _ _ _ h => h) (Or.inl ⟨by rfl, ?y22⟩) (by assumption) ?r22
                                case y22 => (intro W hSw; go_simp <;> with_reducible rfl)
                                change wpAnyH _ _ _ _ _ _ _ (Act.put _ (some 142) _) _
                                simp only [Act.put, List.setIfInBounds_toArray, List.set_cons_zero, List.set_cons_succ]
                                refine wpAnyH_take (i := 7) (v := ?v23) rfl (by kernel_rfl) (by kernel_rfl) (by kernel_rfl) (fun _ _ _ h => h) (Or.inl ⟨by rfl, ?y23⟩) (by assumption) ?r23
                                case y23 => (intro W hSw; go_simp <;> with_reducible rfl)
                                change wpAnyH _ _ _ _ _ _ _ (Act.put _ (some 144) _) _
                                simp only [Act.put, List.setIfInBounds_toArray, List.set_cons_zero, List.set_cons_succ]
                                refine wpAnyH_ready (rs := [1]) (by kernel_rfl) (by simp) ?_
                                refine AllReadyH.cons rfl (fun K hK => ?_) AllReadyH.nil
                                go_simp
                                refine (hor _).mono ?_
                                rintro e wa ⟨rfl, ba⟩
                                have R1 := R0.call ba
                                refine hK.out _ _ R1.a (fun hH1 => ?_)
                                clear hK K hHeld ba
                                refine wpAnyH_take (i := 6) (v := ?v24) rfl (by kernel_rfl) (by kernel_rfl) (by kernel_rfl) (fun _ _ _ h => h) (Or.inl ⟨by rfl, ?y24⟩) (by assumption) ?r24
                                case y24 => (intro W hSw; go_simp <;> with_reducible rfl)
                                change wpAnyH _ _ _ _ _ _ _ (Act.put _ (some 143) _) _
                                simp only [Act.put, List.setIfInBounds_toArray, List.set_cons_zero, List.set_cons_succ]
                                refine wpAnyH_take (i := 8) (v := ?v25) rfl (by kernel_rfl) (by kernel_rfl) (by kernel_rfl) (fun _ _ _ h => h) (Or.inl ⟨by rfl, ?y25⟩) (by assumption) ?r25
                                case y25 => (intro W hSw; go_simp <;> with_reducible rfl)
                                change wpAnyH _ _ _ _ _ _ _ (Act.put _ (some 145) _) _
                                simp only [Act.put, List.setIfInBounds_toArray, List.set_cons_zero, List.set_cons_succ]
                                refine wpAnyH_ready (rs := [9]) (by kernel_rfl) (by simp) ?_
                                refine AllReadyH.cons rfl (fun K hK => ?_) AllReadyH.nil
                                go_simp
                                refine (hp _).mono ?_
                                rintro e wb ⟨rfl, bb⟩
                                have R2 := R1.call bb
                                refine hK.out _ _ R2.a (fun hH2 => ?_)
                                clear hK K hH1 bb
                                refine wpAnyH_take (i := 10) (v := ?v26) rfl (by kernel_rfl) (by kernel_rfl) (by kernel_rfl) (fun _ _ _ h => h) (Or.inl ⟨by rfl, ?y26⟩) (by assumption) ?r26
                                case y26 => (intro W hSw; go_simp <;> with_reducible rfl)
                                change wpAnyH _ _ _ _ _ _ _ (Act.put _ (some 147) _) _
                                simp only [Act.put, List.setIfInBounds_toArray, List.set_cons_zero, List.set_cons_succ]
                                refine wpAnyH_take (i := 11) (v := ?v27) rfl (by kernel_rfl) (by kernel_rfl) (by kernel_rfl) (fun _ _ _ h => h) (Or.inl ⟨by rfl, ?y27⟩) (by assumption) ?r27
                                case y27 => (intro W hSw; go_simp <;> with_reducible rfl)
                                change wpAnyH _ _ _ _ _ _ _ (Act.put _ (some 148) _) _
                                simp only [Act.put, List.setIfInBounds_toArray, List.set_cons_zero, List.set_cons_succ]
                                refine wpAnyH_ready (rs := [12]) (by kernel_rfl) (by simp) ?_
                                refine AllReadyH.cons rfl (fun K hK => ?_) AllReadyH.nil
                                have gz := grown_sets (w.heap.size + 1) [.string (bs q.scheme), .string (bs q.host), .int .i64 q.port, .string (bs q.path), .string (bs q.query), .string (bs q.frag), .bool q.hasQ, .bool q.hasF] 0 wb
                                have hz := LB.stored R2.r (bs q.scheme) (bs q.host) q.port (bs q.path) (bs q.query) (bs q.frag) q.hasQ q.hasF
                                refine wp_store_mid _ _ _ rfl (w.heap.size + 1) 0 #[.string (bs q.scheme), .string (bs q.host), .int .i64 q.port, .string (bs q.path), .string (bs q.query), .string (bs q.frag), .bool q.hasQ, .bool q.hasF] rfl rfl (LB.there R2.r) (by kernel_rfl) (one8 _ _ _ _ _ _ _ _) ?_
                                refine hK.out _ _ (LB.grown R2.a gz (by simp)) (fun hHz => ?_)
                                clear hK K
                                refine wpAnyH_take (i := 13) (v := ?v28) rfl (by kernel_rfl) (by kernel_rfl) (by kernel_rfl) (fun _ _ _ h => h) (Or.inl ⟨by rfl, ?y28⟩) (by assumption) ?r28
                                case y28 => (intro W hSw; go_simp <;> with_reducible rfl)
                                change wpAnyH _ _ _ _ _ _ _ (Act.put _ (some 5) _) _
                                simp only [Act.put, List.setIfInBounds_toArray]
                                refine wpAnyH_done (by kernel_rfl) ?_ _
                                go_wp2
                                generalize wb.setCells (w.heap.size + 1) 0 [.string (bs q.scheme), .string (bs q.host), .int .i64 q.port, .string (bs q.path), .string (bs q.query), .string (bs q.frag), .bool q.hasQ, .bool q.hasF] = wz at hz gz ⊢
                                refine bodyPost_ret (v := (.tuple #[.agg #[.string (bs q.scheme), .string (bs q.host), .int .i64 q.port, .string (bs q.path), .string (bs q.query), .string (bs q.frag), .bool q.hasQ, .bool q.hasF], .bool ok])) ?_ rfl (HO.out _ (R2.out gz))
                                have c0 := LB.c0 hz
                                have c1 := LB.c1 hz
                                have c2 := LB.c2 hz
                                have c3 := LB.c3 hz
                                have c4 := LB.c4 hz
                                have c5 := LB.c5 hz
                                have c6 := LB.c6 hz
                                have c7 := LB.c7 hz
                                clear hor hp R0 R1 R2 hH2 HO gz hHz
                                as_aux_lemma => simp [results, Tryz.results15, go_sem, c0, c1, c2, c3, c4, c5, c6, c7]
end Go.Proofs.YtlgggibdgfdmhaaGreatDoor
