/-
  The walks of the document's Origin and dotted of layer 4. Conditions: links whose parts are of at most a hundred thousand bytes.
-/
import Derived.Test.YtlgggibdgfdmhaaGreatDoorQA
import Derived.Test.YtlgggibdgfdmhaaGreatDoorPF
import Derived.Test.YtlgggibdgfdmhaaGreatDoorPB
import Derived.Test.YtlgggibdgfdmhaaGreatDoorKO
namespace Go.Proofs.YtlgggibdgfdmhaaGreatDoor
open Go.RowKit
open Go.Lib

def KeptW (w w' : World) : Prop := Below w.heap.size w w'
theorem KeptW.go {w w1 w2 : World} (h : KeptW w w1) (b : Below w1.heap.size w1 w2) : KeptW w w2 := Below.trans h (b.mono (Below.size h))
theorem KeptW.drew {w w1 : World} (h : KeptW w w1) : KeptW w w1.drew := below_drewN h 1
theorem add_bs (a b c : List UInt8) (e : a ++ b = c) (h : a.length + b.length ≤ 1000000000) (W : World) : (Op.stringOp .add (bs a) (bs b)).run Tryz.prog W = .ok (.string (bs c)) W := by
  rw [run_string_add_sum W _ _ (by rw [bs_size, bs_size]; omega), bs_cat, e]
set_option maxRecDepth 100000 in
set_option maxHeartbeats 1000000 in
theorem rorigin_any (p : Lk) (w : World) (hf : Fits p) (hp : p.port ≤ 1000000) : Calls Tryz.prog 33 #[lkV p] w fun e w' => e = .returned (.string (bs (rootL p))) ∧ Below w.heap.size w w' := by
  have hL : LB w.heap.size (bs p.scheme) (bs p.host) p.port (bs p.path) (bs p.query) (bs p.frag) p.hasQ p.hasF (w.alloc (.cells #[.string (bs p.scheme), .string (bs p.host), .int .i64 p.port, .string (bs p.path), .string (bs p.query), .string (bs p.frag), .bool p.hasQ, .bool p.hasF] 24)) := Blk.new _ w
  have B0 : Below w.heap.size w (w.alloc (.cells #[.string (bs p.scheme), .string (bs p.host), .int .i64 p.port, .string (bs p.path), .string (bs p.query), .string (bs p.frag), .bool p.hasQ, .bool p.hasF] 24)) := (Below.refl _ _).alloc (Nat.le_refl _) _
  have z1 : (bs p.scheme).size ≤ 100000 := by rw [bs_size]; exact hf.sch
  have z2 : (bs p.host).size ≤ 100000 := by rw [bs_size]; exact hf.host
  have HR := Lib.hid (show rootL p = p.scheme ++ [58, 47, 47] ++ p.host ++ (if p.port = 0 then [] else 58 :: decDigits p.port) from rfl)
  have c0 := hL.c0
  have c1 := hL.c1
  have c2 := hL.c2
  unfold lkV aggV
  have hsl : p.scheme.length ≤ 100000 := hf.sch
  have hhl : p.host.length ≤ 100000 := hf.host
  have hdl := dec_len6 p.port hp
  have a1 := add_bs p.scheme [58, 47, 47] _ rfl (by simp; omega)
  have a2 := add_bs (p.scheme ++ [58, 47, 47]) p.host _ rfl (by simp; omega)
  have a3 := add_bs (p.scheme ++ [58, 47, 47] ++ p.host) [58] _ rfl (by simp; omega)
  have a4 := add_bs (p.scheme ++ [58, 47, 47] ++ p.host ++ [58]) (decDigits p.port) _ rfl (by simp; omega)
  rw [show bs [58, 47, 47] = ⟨#[58, 47, 47]⟩ from rfl] at a1
  rw [show bs [58] = ⟨#[58]⟩ from rfl] at a3
  have hdg := fun W => rdigits04 p.port W hp
  by_cases h0 : p.port = 0
  · have HV := Lib.hid (show rootL p = p.scheme ++ [58, 47, 47] ++ p.host by rw [HR.out, if_pos h0, List.append_nil])
    have q0 : ((p.port : Int) == 0) = true := by rw [h0]; rfl
    clear a3 a4 hdg HR h0 hdl
    generalize p.scheme ++ [58, 47, 47] ++ p.host = P2 at *
    generalize p.scheme ++ [58, 47, 47] = P1 at *
    go_enter Tryz.func33, Tryz.ntmps33
    go_wp2
    go_ret
    exact ⟨by rw [HV.out]; rfl, B0⟩
  · have HV := Lib.hid (show rootL p = p.scheme ++ [58, 47, 47] ++ p.host ++ [58] ++ decDigits p.port by rw [HR.out, if_neg h0, List.append_assoc _ [58]]; rfl)
    have q0 : ((p.port : Int) == 0) = false := by rw [beq_eq_false_iff_ne]; omega
    clear HR h0 hdl
    generalize p.scheme ++ [58, 47, 47] ++ p.host ++ [58] ++ decDigits p.port = P4 at *
    generalize p.scheme ++ [58, 47, 47] ++ p.host ++ [58] = P3 at *
    generalize p.scheme ++ [58, 47, 47] ++ p.host = P2 at *
    generalize p.scheme ++ [58, 47, 47] = P1 at *
    generalize decDigits p.port = D at *
    clear z1 z2
    go_enter Tryz.func33, Tryz.ntmps33
    go_wp2
    obtain ⟨W1, hW1⟩ : ∃ W1, W1 = (w.alloc (.cells #[.string (bs p.scheme), .string (bs p.host), .int .i64 p.port, .string (bs p.path), .string (bs p.query), .string (bs p.frag), .bool p.hasQ, .bool p.hasF] 24)) := ⟨_, rfl⟩
    rw [← hW1] at hL B0 ⊢
    clear hW1 c0 c1 c2
    have HALL := Lib.hid (show ∀ W, KeptW W1 W → (KeptW W1 W ∧ W.cell? ⟨w.heap.size, 0, none⟩ = some (.string (bs p.scheme)) ∧ W.cell? ⟨w.heap.size, 1, none⟩ = some (.string (bs p.host)) ∧ W.cell? ⟨w.heap.size, 2, none⟩ = some (.int .i64 p.port)) from fun W hW => ⟨hW, (hL.below hW).c0, (hL.below hW).c1, (hL.below hW).c2⟩)
    have HD := Lib.hid hdg
    clear hdg
    have hkk : KeptW W1 W1 := Below.refl _ _
    go_region_held3 (fun W => KeptW W1 W ∧ W.cell? ⟨w.heap.size, 0, none⟩ = some (.string (bs p.scheme)) ∧ W.cell? ⟨w.heap.size, 1, none⟩ = some (.string (bs p.host)) ∧ W.cell? ⟨w.heap.size, 2, none⟩ = some (.int .i64 p.port)) (first | assumption | exact HALL.out _ (by assumption) | exact HALL.out _ (KeptW.drew (by assumption)) | exact HALL.out _ (KeptW.go (by assumption) (by assumption)) | exact HALL.out _ (KeptW.go (And.left (by assumption)) (by assumption)))
      (first | (go_at_call 57; (with_reducible refine (HD.out _).mono ?_); rintro e w' ⟨rfl, b⟩))
    all_goals
      have hk9 : KeptW W1 w' := by first | exact And.left (by assumption) | exact KeptW.go (And.left (by assumption)) (by assumption)
      go_wp2
      go_ret
      exact ⟨by rw [HV.out]; rfl, B0.trans (Below.mono hk9 B0.size)⟩
def dotL (q : Lk) : Lk := { q with path := dotsL q.path }
theorem RPOut.dots (f : Option Lk) {w w' : World} (hb : Below w.heap.size w w') : RPOut (f.map dotL) w (.returned (.tuple #[.agg #[.string (bs (f.getD Lk.zero).scheme), .string (bs (f.getD Lk.zero).host), .int .i64 (f.getD Lk.zero).port, .string (bs (dotsL (f.getD Lk.zero).path)), .string (bs (f.getD Lk.zero).query), .string (bs (f.getD Lk.zero).frag), .bool (f.getD Lk.zero).hasQ, .bool (f.getD Lk.zero).hasF], .bool f.isSome])) w' := by
  cases f <;> exact ⟨rfl, hb⟩
set_option maxRecDepth 100000 in
set_option maxHeartbeats 1000000 in
theorem rdotted_any (l : List UInt8) (w : World) : Calls Tryz.prog 32 #[.string (bs l)] w (RPOut ((parseL l).map dotL) w) := by
  have hp := fun W => rparse_any l W
  have HO := Lib.hid (fun w' hb => @RPOut.dots (parseL l) w w' hb)
  have hlen : ((parseL l).getD Lk.zero).path.length ≤ 100000 := by
    cases h : parseL l with
    | none => simp [Lk.zero]
    | some p => exact (fits_of (parseL_some h)).path
  unfold RPOut lkV aggV at hp
  generalize RPOut ((parseL l).map dotL) w = Q at *
  generalize (parseL l).getD Lk.zero = p at *
  generalize (parseL l).isSome = ok at *
  have hd := fun W => rdots_any (bs p.path) W (by rw [bs_size]; omega)
  rw [bs_list] at hd
  have HNEW : ∀ W : World, LZ W.heap.size (W.alloc (.cells #[.string ⟨#[]⟩, .string ⟨#[]⟩, .int .i64 0, .string ⟨#[]⟩, .string ⟨#[]⟩, .string ⟨#[]⟩, .bool false, .bool false] 24)) := fun W => Blk.new _ W
  have hR := HNEW w
  have B0 : Below w.heap.size w (w.alloc (.cells #[.string ⟨#[]⟩, .string ⟨#[]⟩, .int .i64 0, .string ⟨#[]⟩, .string ⟨#[]⟩, .string ⟨#[]⟩, .bool false, .bool false] 24)) := (Below.refl _ _).alloc (Nat.le_refl _) _
  have hs0 : (w.alloc (.cells #[.string ⟨#[]⟩, .string ⟨#[]⟩, .int .i64 0, .string ⟨#[]⟩, .string ⟨#[]⟩, .string ⟨#[]⟩, .bool false, .bool false] 24)).heap.size = w.heap.size + 1 := by simp
  have HS0 := Lib.hid hs0
  clear hs0 hlen
  generalize dotsL p.path = D at *
  go_enter Tryz.func32, Tryz.ntmps32
  go_wp2_with fail
  refine (hp _).mono ?_
  clear hp
  rintro e w1 ⟨rfl, b1⟩
  have hR1 : LZ w.heap.size w1 := LB.below hR b1
  have B1 : Below w.heap.size w w1 := B0.trans (b1.mono B0.size)
  have hlt : w.heap.size < w1.heap.size := LB.lt hR1
  clear hR B0 b1
  have hA := HNEW w1
  clear HNEW
  go_wp2_with (guard_target =~ Go.wpList _ _ _ ({ dst := none, op := Go.Op.store 24 _ _, type := _, pos := _, after := _, guard := none } :: _) _ _; refine st24 rfl rfl hA ?_)
  intro w2 hL2 g
  have hR2 : LZ w.heap.size w2 := LB.grown (LB.alloc hR1 _) g (by simp; omega)
  have B2 : Below w.heap.size w w2 := (B1.alloc B1.size _).grown g (by simp; have := B1.size; omega) (fun k hk => by injection hk with hk; omega)
  clear hA g B1 hR1
  have c3 := hL2.c3
  go_wp2_with fail
  refine (hd w2).mono ?_
  clear hd c3
  rintro e w3 ⟨rfl, b3⟩
  have hL3 := hL2.below b3
  have hR3 : LZ w.heap.size w3 := LB.below hR2 b3
  have B3 : Below w.heap.size w w3 := B2.trans (b3.mono B2.size)
  clear hL2 hR2 B2 b3
  go_wp2_with (guard_target =~ Go.wpList _ _ _ ({ dst := none, op := Go.Op.store _ _ _, type := _, pos := _, after := _, guard := none } :: _) _ _; refine st1 (b := w1.heap.size) (k := 3) (v := .string (bs D)) rfl rfl hL3 (by show _ < 8; decide) rfl Tryz.sizeOf9 ?_)
  intro w4 hb4 g4
  have hL4 : LB w1.heap.size (bs p.scheme) (bs p.host) p.port (bs D) (bs p.query) (bs p.frag) p.hasQ p.hasF w4 := by
    show Blk _ _ _
    simpa [lcs] using hb4
  have hR4 : LZ w.heap.size w4 := LB.grown hR3 g4 (by simp; omega)
  have B4 : Below w.heap.size w w4 := B3.grown g4 B3.size (fun k hk => by injection hk with hk; omega)
  clear hb4 g4 hL3 hR3 B3
  go_wp2_with (first | (guard_target =~ Go.wpList _ _ _ ({ dst := _, op := Go.Op.load 24 _, type := _, pos := _, after := _, guard := none } :: _) _ _; refine ld24 rfl hL4 ?_) | (guard_target =~ Go.wpList _ _ _ ({ dst := none, op := Go.Op.store 24 _ _, type := _, pos := _, after := _, guard := none } :: _) _ _; refine st24 rfl rfl hR4 ?_))
  intro wz hz gz
  go_wp2
  exact bodyPost_ret (by simp [results, Tryz.results32, go_sem, hz.c0, hz.c1, hz.c2, hz.c3, hz.c4, hz.c5, hz.c6, hz.c7]) rfl (HO.out _ (B4.grown gz B4.size (fun k hk => by injection hk with hk; omega)))
end Go.Proofs.YtlgggibdgfdmhaaGreatDoor
