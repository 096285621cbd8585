/-
  The walk of the laws' first of layer 4. Conditions: the library's variables hold what they are laid with.
-/
import Derived.Test.YtlgggibdgfdmhaaGreatDoorKM
import Derived.Test.YtlgggibdgfdmhaaGreatDoorKN
namespace Go.Proofs.YtlgggibdgfdmhaaGreatDoor
open Go.RowKit
open Go.Lib

theorem fits_of {l : List UInt8} {p : Lk} (h : IsLink l p) : Fits p := by
  obtain ⟨h1, h2, h3⟩ := h
  have hl : (printL p).length ≤ 2048 := by rw [← h1]; exact h3
  have h4 : p.query.length ≤ 2048 ∧ p.frag.length ≤ 2048 := by
    unfold printL restL at hl
    constructor
    · cases hq : p.hasQ with
      | false => rw [h2.noQ hq]; simp
      | true => rw [hq] at hl; simp [markL] at hl; omega
    · cases hq : p.hasF with
      | false => rw [h2.noF hq]; simp
      | true => rw [hq] at hl; simp [markL] at hl; omega
  unfold printL restL rootL at hl
  simp only [List.length_append] at hl
  exact ⟨by omega, by omega, h2.port, by omega, by omega, by omega⟩
theorem fits_canon {l : List UInt8} {p : Lk} (h : IsLink l p) : Fits (canonL p) := by
  have hf := fits_of h
  obtain ⟨t1, t2, _⟩ := wf_parts h.2.1
  have h1 := hf.sch; have h2 := hf.host; have h3 := hf.port; have h4 := hf.path; have h5 := hf.query
  have hp := (wf_canon h.2.1).port
  have hl : (printL p).length ≤ 2048 := by rw [← h.1]; exact h.2.2
  have hpl : p.path.length ≤ 2048 := by
    unfold printL restL at hl
    simp only [List.length_append] at hl
    omega
  refine ⟨by show (smallL p.scheme).length ≤ _; unfold smallL; rw [List.length_map]; exact h1, by show (smallL p.host).length ≤ _; unfold smallL; rw [List.length_map]; exact h2, hp, ?_, ?_, by show (0 : Nat) ≤ _; omega⟩
  · show (cpathL p.path).length ≤ _
    unfold cpathL
    have h6 := dots_length (normL p.path)
    have h7 := norm_length p.path t1
    split
    · simp
    · omega
  · show (cqueryL p.query).length ≤ _
    have := cquery_length p.query t2
    omega
theorem ascii_of {l : List UInt8} (h : l.all (fun c => decide (c.toNat < 128)) = true) : ∀ (j : Nat) b, l[j]? = some b → b.toNat < 128 := by
  intro j b hb
  have := List.all_eq_true.1 h b (List.mem_of_getElem? hb)
  simpa using this
set_option maxRecDepth 100000 in
set_option maxHeartbeats 4000000 in
theorem first_any (w : World) (hE : Env w) : Calls Tryz.prog 10 #[] w fun e w' => e = .returned (.bool true) ∧ Below w.heap.size w w' := by
  obtain ⟨L1, e1, e2⟩ : ∃ L1, parseL [72, 84, 84, 80, 58, 47, 47, 69, 120, 46, 67, 79, 77, 58, 56, 48, 47, 97, 47, 46, 47, 98, 47, 46, 46, 47, 37, 55, 101, 99, 63, 117, 116, 109, 95, 120, 61, 49, 38, 121, 61, 50, 35, 122] = some L1 ∧ printL (canonL L1) = [104, 116, 116, 112, 58, 47, 47, 101, 120, 46, 99, 111, 109, 47, 97, 47, 126, 99, 63, 121, 61, 50] := ⟨⟨[72, 84, 84, 80], [69, 120, 46, 67, 79, 77], 80, [47, 97, 47, 46, 47, 98, 47, 46, 46, 47, 37, 55, 101, 99], [117, 116, 109, 95, 120, 61, 49, 38, 121, 61, 50], [122], true, true⟩, by decide +kernel, by decide +kernel⟩
  obtain ⟨L2, e3, L3, e4, e5⟩ : ∃ L2, parseL [104, 116, 116, 112, 58, 47, 47, 104, 47, 97, 47, 98] = some L2 ∧ ∃ L3, resolveL L2 [46, 46, 47, 99] = some L3 ∧ printL L3 = [104, 116, 116, 112, 58, 47, 47, 104, 47, 99] := ⟨⟨[104, 116, 116, 112], [104], 0, [47, 97, 47, 98], [], [], false, false⟩, by decide +kernel, ⟨[104, 116, 116, 112], [104], 0, [47, 99], [], [], false, false⟩, by decide +kernel, by decide +kernel⟩
  have e6 : parseL [102, 116, 112, 58, 47, 47, 104, 47] = none := by decide +kernel
  have e7 : dotsL [47, 97, 47, 46, 46, 47, 98, 47, 46] = [47, 98, 47] := by decide +kernel
  have i1 := parseL_some e1
  have i2 := parseL_some e3
  have f1 := fits_of i1
  have f1c := fits_canon i1
  have f2 := fits_of i2
  obtain ⟨t1, t2, _⟩ := wf_parts i1.2.1
  have f3 : Fits L3 := by
    unfold resolveL at e4
    cases hp : parseL (againstL L2 [46, 46, 47, 99]).1 with
    | none => rw [hp] at e4; cases e4
    | some q =>
      rw [hp] at e4
      have hq := fits_of (parseL_some hp)
      injection e4 with e4
      rw [← e4]
      split
      · have := dots_length q.path
        exact ⟨hq.sch, hq.host, hq.port, by show (dotsL q.path).length ≤ _; have := hq.path; omega, hq.query, hq.frag⟩
      · exact hq
  have hp1 := fun W hW => parse_any ⟨#[72, 84, 84, 80, 58, 47, 47, 69, 120, 46, 67, 79, 77, 58, 56, 48, 47, 97, 47, 46, 47, 98, 47, 46, 46, 47, 37, 55, 101, 99, 63, 117, 116, 109, 95, 120, 61, 49, 38, 121, 61, 50, 35, 122]⟩ W hW (by decide)
  rw [show (⟨#[72, 84, 84, 80, 58, 47, 47, 69, 120, 46, 67, 79, 77, 58, 56, 48, 47, 97, 47, 46, 47, 98, 47, 46, 46, 47, 37, 55, 101, 99, 63, 117, 116, 109, 95, 120, 61, 49, 38, 121, 61, 50, 35, 122]⟩ : ByteArray).data.toList = [72, 84, 84, 80, 58, 47, 47, 69, 120, 46, 67, 79, 77, 58, 56, 48, 47, 97, 47, 46, 47, 98, 47, 46, 46, 47, 37, 55, 101, 99, 63, 117, 116, 109, 95, 120, 61, 49, 38, 121, 61, 50, 35, 122] from rfl, e1] at hp1
  unfold ParseOut lkV aggV at hp1
  simp only [Option.getD_some, Option.isSome_some, if_true] at hp1
  have hp2 := fun W hW => parse_any ⟨#[104, 116, 116, 112, 58, 47, 47, 104, 47, 97, 47, 98]⟩ W hW (by decide)
  rw [show (⟨#[104, 116, 116, 112, 58, 47, 47, 104, 47, 97, 47, 98]⟩ : ByteArray).data.toList = [104, 116, 116, 112, 58, 47, 47, 104, 47, 97, 47, 98] from rfl, e3] at hp2
  unfold ParseOut lkV aggV at hp2
  simp only [Option.getD_some, Option.isSome_some, if_true] at hp2
  have hp4 : ∀ W, Env W → Calls Tryz.prog 11 #[.string ⟨#[102, 116, 112, 58, 47, 47, 104, 47]⟩] W fun e w' => e = .returned (.tuple #[.agg #[.string ⟨#[]⟩, .string ⟨#[]⟩, .int .i64 0, .string ⟨#[]⟩, .string ⟨#[]⟩, .string ⟨#[]⟩, .bool false, .bool false], .int .i64 40]) ∧ Below W.heap.size W w' := fun W hW => by
    have h := parse_any ⟨#[102, 116, 112, 58, 47, 47, 104, 47]⟩ W hW (by decide)
    rw [show (⟨#[102, 116, 112, 58, 47, 47, 104, 47]⟩ : ByteArray).data.toList = [102, 116, 112, 58, 47, 47, 104, 47] from rfl, e6] at h
    exact h
  have hia := fun W => libIndexAny ⟨#[46, 46, 47, 99]⟩ ⟨#[58, 47, 63, 35]⟩ W (by decide) (by decide) (ascii_of (by decide)) (ascii_of (by decide))
  have hres := fun W hW => resolve_any L2 ⟨#[46, 46, 47, 99]⟩ W hW f2 (by decide) hia
  rw [show (⟨#[46, 46, 47, 99]⟩ : ByteArray).data.toList = [46, 46, 47, 99] from rfl, e4] at hres
  unfold ParseOut lkV aggV at hres
  simp only [Option.getD_some, Option.isSome_some, if_true] at hres
  have hcan := fun W hW => canon_any L1 W hW f1 t1 t2
  have hpr1 := fun W hW => print_any (canonL L1) W hW f1c
  have hpr3 := fun W hW => print_any L3 W hW f3
  rw [e2] at hpr1
  rw [e5] at hpr3
  have hdo := fun W hW => dots_any ⟨#[47, 97, 47, 46, 46, 47, 98, 47, 46]⟩ W hW (by decide)
  rw [show (⟨#[47, 97, 47, 46, 46, 47, 98, 47, 46]⟩ : ByteArray).data.toList = [47, 97, 47, 46, 46, 47, 98, 47, 46] from rfl, e7] at hdo
  have b1 : ((bs [104, 116, 116, 112, 58, 47, 47, 101, 120, 46, 99, 111, 109, 47, 97, 47, 126, 99, 63, 121, 61, 50]).toList == ([104, 116, 116, 112, 58, 47, 47, 101, 120, 46, 99, 111, 109, 47, 97, 47, 126, 99, 63, 121, 61, 50] : List UInt8)) = true := by rw [eqS, bs_list]; simp
  have b2 : ((bs [104, 116, 116, 112, 58, 47, 47, 104, 47, 99]).toList == ([104, 116, 116, 112, 58, 47, 47, 104, 47, 99] : List UInt8)) = true := by rw [eqS, bs_list]; simp
  have b3 : ((bs [47, 98, 47]).toList == ([47, 98, 47] : List UInt8)) = true := by rw [eqS, bs_list]; simp
  clear e1 e2 e3 e4 e5 e6 e7 i1 i2 f1 f1c f2 f3 t1 t2 hia
  unfold lkV aggV at hcan hpr1 hpr3
  generalize canonL L1 = C1 at *
  generalize bs [104, 116, 116, 112, 58, 47, 47, 101, 120, 46, 99, 111, 109, 47, 97, 47, 126, 99, 63, 121, 61, 50] = X1 at *
  generalize bs [104, 116, 116, 112, 58, 47, 47, 104, 47, 99] = X2 at *
  generalize bs [47, 98, 47] = X3 at *
  have HNEW : ∀ W : World, LZ W.heap.size (W.alloc (.cells #[.string ⟨#[]⟩, .string ⟨#[]⟩, .int .i64 0, .string ⟨#[]⟩, .string ⟨#[]⟩, .string ⟨#[]⟩, .bool false, .bool false] 24)) := fun W => Blk.new _ W
  go_enter Tryz.func10, Tryz.ntmps10
  go_wp2_with fail
  refine (hp1 w hE).mono ?_
  clear hp1
  rintro e w1 ⟨rfl, B1⟩
  have hA := HNEW w1
  go_wp2_with (guard_target =~ Go.wpList _ _ _ ({ dst := none, op := Go.Op.store 24 _ _, type := _, pos := _, after := _, guard := none } :: _) _ _; refine st24 rfl rfl hA ?_)
  intro w2 hL1 g2
  have B2 : Below w.heap.size w w2 := (B1.alloc B1.size _).grown g2 (by simp; have := B1.size; omega) (fun k hk => by injection hk with hk; have := B1.size; omega)
  clear hA g2 B1
  go_wp2_with fail
  refine (hp2 w2 (hE.below B2)).mono ?_
  clear hp2
  rintro e w3 ⟨rfl, b⟩
  have hL1 := hL1.below b
  have B3 := B2.trans (b.mono B2.size)
  have hA := HNEW w3
  have l1 := hL1.lt
  go_wp2_with (guard_target =~ Go.wpList _ _ _ ({ dst := none, op := Go.Op.store 24 _ _, type := _, pos := _, after := _, guard := none } :: _) _ _; refine st24 rfl rfl hA ?_)
  intro w4 hL2 g4
  have hL1 := (hL1.alloc _).grown g4 (by simp; omega)
  have B4 : Below w.heap.size w w4 := (B3.alloc B3.size _).grown g4 (by simp; have := B3.size; omega) (fun k hk => by injection hk with hk; have := B3.size; omega)
  clear hA g4 B3 B2 b l1
  have hr4 := hres w4 (hE.below B4)
  clear hres
  go_wp2_with (guard_target =~ Go.wpList _ _ _ ({ dst := _, op := Go.Op.load 24 _, type := _, pos := _, after := _, guard := none } :: _) _ _; refine ld24 rfl hL2 ?_)
  refine hr4.mono ?_
  clear hr4
  rintro e w5 ⟨rfl, b⟩
  have hL1 := hL1.below b
  have B5 := B4.trans (b.mono B4.size)
  have hA := HNEW w5
  have l1 := hL1.lt
  clear hL2 B4 b
  go_wp2_with (guard_target =~ Go.wpList _ _ _ ({ dst := none, op := Go.Op.store 24 _ _, type := _, pos := _, after := _, guard := none } :: _) _ _; refine st24 rfl rfl hA ?_)
  intro w6 hL3 g6
  have hL1 := (hL1.alloc _).grown g6 (by simp; omega)
  have B6 : Below w.heap.size w w6 := (B5.alloc B5.size _).grown g6 (by simp; have := B5.size; omega) (fun k hk => by injection hk with hk; have := B5.size; omega)
  clear hA g6 B5 l1
  go_wp2_with fail
  refine (hp4 w6 (hE.below B6)).mono ?_
  clear hp4
  rintro e w7 ⟨rfl, b⟩
  have hL1 := hL1.below b
  have hL3 := hL3.below b
  have B7 := B6.trans (b.mono B6.size)
  have hA := HNEW w7
  have l1 := hL1.lt
  have l3 := hL3.lt
  clear B6 b
  go_wp2_with (guard_target =~ Go.wpList _ _ _ ({ dst := none, op := Go.Op.store 24 _ _, type := _, pos := _, after := _, guard := none } :: _) _ _; refine st24 rfl rfl hA ?_)
  intro w8 hL8 g8
  have hL1 := (hL1.alloc _).grown g8 (by simp; omega)
  have hL3 := (hL3.alloc _).grown g8 (by simp; omega)
  have B8 : Below w.heap.size w w8 := (B7.alloc B7.size _).grown g8 (by simp; have := B7.size; omega) (fun k hk => by injection hk with hk; have := B7.size; omega)
  clear hA g8 B7 l1 l3 hL8 HNEW
  have c0 := hL1.c0
  have c1 := hL1.c1
  have c2 := hL1.c2
  have c3 := hL1.c3
  have c4 := hL1.c4
  have c5 := hL1.c5
  have c6 := hL1.c6
  have c7 := hL1.c7
  go_wp2_with fail
  refine (hcan w8 (hE.below B8)).mono ?_
  clear hcan c0 c1 c2 c3 c4 c5 c6 c7
  rintro e w9 ⟨rfl, b⟩
  have hL3 := hL3.below b
  have B9 := B8.trans (b.mono B8.size)
  clear b B8 hL1
  go_wp2_with fail
  refine (hpr1 w9 (hE.below B9)).mono ?_
  clear hpr1
  rintro e wa ⟨rfl, b⟩
  have hL3 := hL3.below b
  have Ba := B9.trans (b.mono B9.size)
  clear b B9
  have c0 := hL3.c0
  have c1 := hL3.c1
  have c2 := hL3.c2
  have c3 := hL3.c3
  have c4 := hL3.c4
  have c5 := hL3.c5
  have c6 := hL3.c6
  have c7 := hL3.c7
  go_wp2_with fail
  refine (hpr3 wa (hE.below Ba)).mono ?_
  clear hpr3 c0 c1 c2 c3 c4 c5 c6 c7
  rintro e wb ⟨rfl, b⟩
  have Bb := Ba.trans (b.mono Ba.size)
  clear b Ba hL3
  go_wp2_with fail
  refine (hdo wb (hE.below Bb)).mono ?_
  clear hdo
  rintro e wc ⟨rfl, b⟩
  have Bc := Bb.trans (b.mono Bb.size)
  go_wp2
  go_ret
  exact ⟨ret_bool rfl, Bc⟩
end Go.Proofs.YtlgggibdgfdmhaaGreatDoor
