/-
  The walks of package link's Parse, isMail, Safe. Conditions: texts of at most a million bytes (Parse, Safe: of any length that fits); the library's variables hold what they are laid with.
-/
import Derived.Test.YtlgggibdgfdmhaaGreatDoorKE
namespace Go.Proofs.YtlgggibdgfdmhaaGreatDoor
open Go.RowKit
open Go.Lib

def ParseOut (f : Option Lk) (w : World) (e : Ending) (w' : World) : Prop :=
  e = .returned (.tuple #[lkV (f.getD Lk.zero), .int .i64 (if f.isSome then 0 else 40)]) ∧ Below w.heap.size w w'
theorem ParseOut.no {l : List UInt8} {w w' : World} (H : parseL l = none) (hb : Below w.heap.size w w') : ParseOut (parseL l) w (.returned (.tuple #[.agg #[.string ⟨#[]⟩, .string ⟨#[]⟩, .int .i64 0, .string ⟨#[]⟩, .string ⟨#[]⟩, .string ⟨#[]⟩, .bool false, .bool false], .int .i64 40])) w' := by
  rw [H]; exact ⟨rfl, hb⟩
theorem ParseOut.yes {l : List UInt8} {w w' : World} {p : Lk} (H : parseL l = some p) (hb : Below w.heap.size w w') : ParseOut (parseL l) w (.returned (.tuple #[.agg #[.string (bs p.scheme), .string (bs p.host), .int .i64 p.port, .string (bs p.path), .string (bs p.query), .string (bs p.frag), .bool p.hasQ, .bool p.hasF], .int .i64 0])) w' := by
  rw [H]; exact ⟨rfl, hb⟩
set_option maxRecDepth 100000 in
set_option maxHeartbeats 1000000 in
theorem parse_any (s : ByteArray) (w : World) (hE : Env w) (hs : s.size ≤ 9223372036854775807) : Calls Tryz.prog 11 #[.string s] w (ParseOut (parseL s.data.toList) w) := by
  have hR : LZ w.heap.size (w.alloc (.cells #[.string ⟨#[]⟩, .string ⟨#[]⟩, .int .i64 0, .string ⟨#[]⟩, .string ⟨#[]⟩, .string ⟨#[]⟩, .bool false, .bool false] 24)) := Blk.new _ w
  have B0 : Below w.heap.size w (w.alloc (.cells #[.string ⟨#[]⟩, .string ⟨#[]⟩, .int .i64 0, .string ⟨#[]⟩, .string ⟨#[]⟩, .string ⟨#[]⟩, .bool false, .bool false] 24)) := (Below.refl _ _).alloc (Nat.le_refl _) _
  have HL := Lib.hid (size_list s)
  by_cases hbig : 2048 < s.size
  · have HN := Lib.hid (show parseL s.data.toList = none by unfold parseL; rw [if_pos (by rw [← HL.out]; exact hbig)])
    have hb2 : (2048 : Int) < (s.size : Int) := by omega
    go_enter Tryz.func11, Tryz.ntmps11
    go_wp2_with (guard_target =~ Go.wpList _ _ _ ({ dst := none, op := Go.Op.store 24 _ _, type := _, pos := _, after := _, guard := none } :: _) _ _; refine st24 rfl rfl hR ?_)
    intro wz hz gz
    have BZ : Below w.heap.size w wz := B0.grown gz (by simp) (fun k hk => by injection hk with hk; omega)
    clear hR B0
    go_wp2
    exact bodyPost_ret (by simp [results, Tryz.results11, go_sem, LB.c0 hz, LB.c1 hz, LB.c2 hz, LB.c3 hz, LB.c4 hz, LB.c5 hz, LB.c6 hz, LB.c7 hz]) rfl (ParseOut.no HN.out BZ)
  · have hsm : (s.size : Int) ≤ 2048 := by omega
    have HP := Lib.hid (show parseL s.data.toList = apartL s.data.toList by unfold parseL; rw [if_neg (by rw [← HL.out]; exact hbig)])
    have hcl := clone_any s (w.alloc (.cells #[.string ⟨#[]⟩, .string ⟨#[]⟩, .int .i64 0, .string ⟨#[]⟩, .string ⟨#[]⟩, .string ⟨#[]⟩, .bool false, .bool false] 24)) (by omega)
    have hap := fun W hW => apart_any s W hW (by omega)
    unfold ApartOut aggV lkV aggV at hap
    generalize hf : apartL s.data.toList = f at *
    have HF := Lib.hid hf
    clear hf hbig
    have hEb := hE.below B0
    clear hE
    go_enter Tryz.func11, Tryz.ntmps11
    go_wp2_with fail
    refine hcl.mono ?_
    clear hcl
    rintro e w1 ⟨rfl, b1⟩
    have hR1 : LZ w.heap.size w1 := LB.below hR b1
    have B1 : Below w.heap.size w w1 := B0.trans (b1.mono (by simp))
    have hap1 := hap w1 (hEb.below b1)
    clear hap hR B0 b1 hEb
    cases f with
    | none =>
      have HN := Lib.hid (show parseL s.data.toList = none by rw [HP.out])
      simp only at hap1
      go_wp2_with fail
      refine hap1.mono ?_
      clear hap1
      rintro e w2 ⟨⟨a, h, n, p, q, g, x, y, rfl⟩, b2⟩
      have hR2 : LZ w.heap.size w2 := LB.below hR1 b2
      have B2 := B1.trans (b2.mono B1.size)
      clear hR1 b2 B1
      have hA2 : LZ w2.heap.size (w2.alloc (.cells #[.string ⟨#[]⟩, .string ⟨#[]⟩, .int .i64 0, .string ⟨#[]⟩, .string ⟨#[]⟩, .string ⟨#[]⟩, .bool false, .bool false] 24)) := Blk.new _ w2
      have hlt := LB.lt hR2
      go_wp2_with (guard_target =~ Go.wpList _ _ _ ({ dst := none, op := Go.Op.store 24 _ _, type := _, pos := _, after := _, guard := none } :: _) _ _; refine st24 rfl rfl hA2 ?_)
      intro w3 hA3 g3
      have hR3 : LZ w.heap.size w3 := LB.grown (LB.alloc hR2 _) g3 (by simp; omega)
      have B3 : Below w.heap.size w w3 := (B2.alloc B2.size _).grown g3 (by simp; exact Nat.le_succ_of_le B2.size) (fun k hk => by injection hk with hk; have := B2.size; omega)
      clear hA2 hR2 B2 hA3 g3 hlt
      go_wp2_with (guard_target =~ Go.wpList _ _ _ ({ dst := none, op := Go.Op.store 24 _ _, type := _, pos := _, after := _, guard := none } :: _) _ _; refine st24 rfl rfl hR3 ?_)
      intro wz hz gz
      have BZ : Below w.heap.size w wz := B3.grown gz B3.size (fun k hk => by injection hk with hk; omega)
      clear hR3 B3 gz
      go_wp2
      exact bodyPost_ret (by simp [results, Tryz.results11, go_sem, LB.c0 hz, LB.c1 hz, LB.c2 hz, LB.c3 hz, LB.c4 hz, LB.c5 hz, LB.c6 hz, LB.c7 hz]) rfl (ParseOut.no HN.out BZ)
    | some lk =>
      have HN := Lib.hid (show parseL s.data.toList = some lk by rw [HP.out])
      simp only at hap1
      go_wp2_with fail
      refine hap1.mono ?_
      clear hap1
      rintro e w2 ⟨rfl, b2⟩
      have hR2 : LZ w.heap.size w2 := LB.below hR1 b2
      have B2 := B1.trans (b2.mono B1.size)
      clear hR1 b2 B1
      have hA2 : LZ w2.heap.size (w2.alloc (.cells #[.string ⟨#[]⟩, .string ⟨#[]⟩, .int .i64 0, .string ⟨#[]⟩, .string ⟨#[]⟩, .string ⟨#[]⟩, .bool false, .bool false] 24)) := Blk.new _ w2
      have hlt := LB.lt hR2
      go_wp2_with (guard_target =~ Go.wpList _ _ _ ({ dst := none, op := Go.Op.store 24 _ _, type := _, pos := _, after := _, guard := none } :: _) _ _; refine st24 rfl rfl hA2 ?_)
      intro w3 hA3 g3
      have hR3 : LZ w.heap.size w3 := LB.grown (LB.alloc hR2 _) g3 (by simp; omega)
      have B3 : Below w.heap.size w w3 := (B2.alloc B2.size _).grown g3 (by simp; exact Nat.le_succ_of_le B2.size) (fun k hk => by injection hk with hk; have := B2.size; omega)
      clear hA2 hR2 B2 g3 hlt
      go_wp2_with (first | (guard_target =~ Go.wpList _ _ _ ({ dst := _, op := Go.Op.load 24 _, type := _, pos := _, after := _, guard := none } :: _) _ _; refine ld24 rfl hA3 ?_) | (guard_target =~ Go.wpList _ _ _ ({ dst := none, op := Go.Op.store 24 _ _, type := _, pos := _, after := _, guard := none } :: _) _ _; refine st24 rfl rfl hR3 ?_))
      intro wz hz gz
      have BZ : Below w.heap.size w wz := B3.grown gz B3.size (fun k hk => by injection hk with hk; omega)
      clear hR3 B3 gz hA3
      go_wp2
      exact bodyPost_ret (by simp [results, Tryz.results11, go_sem, LB.c0 hz, LB.c1 hz, LB.c2 hz, LB.c3 hz, LB.c4 hz, LB.c5 hz, LB.c6 hz, LB.c7 hz]) rfl (ParseOut.yes HN.out BZ)
theorem toL (s : ByteArray) : s.toList = s.data.toList := Lib.toList_data s
def mailOk (l : List UInt8) : Bool := decide (8 ≤ l.length) && decide (l.length ≤ 207) && (smallL (l.take 7) == [109, 97, 105, 108, 116, 111, 58]) && (l.drop 7).all mailB
theorem drop_nil_all (f : UInt8 → Bool) (l : List UInt8) : (l.drop (l.takeWhile f).length = []) ↔ l.all f = true := by
  constructor
  · intro h
    have h1 := takeWhile_drop f l
    rw [h, List.append_nil] at h1
    rw [← h1]; exact takeWhile_all f l
  · intro h
    have := takeWhile_mid (f := f) l [] h (fun c r e => by cases e)
    rw [List.append_nil] at this
    rw [this]; simp
set_option maxRecDepth 100000 in
set_option maxHeartbeats 1000000 in
theorem isMail_any (s : ByteArray) (w : World) (hs : s.size ≤ 9223372036854775807) : Calls Tryz.prog 42 #[.string s] w fun e w' => e = .returned (.bool (mailOk s.data.toList)) ∧ Below w.heap.size w w' := by
  have HL := Lib.hid (size_list s)
  have HM := Lib.hid (show mailOk s.data.toList = (decide (8 ≤ s.data.toList.length) && decide (s.data.toList.length ≤ 207) && (smallL (s.data.toList.take 7) == [109, 97, 105, 108, 116, 111, 58]) && (s.data.toList.drop 7).all mailB) from rfl)
  by_cases h1 : s.size < 8
  · have HV := Lib.hid (show mailOk s.data.toList = false by rw [HM.out, decide_eq_false (by rw [← HL.out]; omega)]; rfl)
    go_enter Tryz.func42, Tryz.ntmps42
    go_wp2
    all_goals first | (exfalso; omega) | (go_ret; exact ⟨ret_bool HV.out.symm, Below.refl _ _⟩)
  by_cases h2 : 207 < s.size
  · have HV := Lib.hid (show mailOk s.data.toList = false by rw [HM.out, decide_eq_false (p := s.data.toList.length ≤ 207) (by rw [← HL.out]; omega), Bool.and_false]; rfl)
    have h1' : 8 ≤ s.size := by omega
    clear h1
    go_enter Tryz.func42, Tryz.ntmps42
    go_wp2
    all_goals first | (exfalso; omega) | (go_ret; exact ⟨ret_bool HV.out.symm, Below.refl _ _⟩)
  have h1' : 8 ≤ s.size := by omega
  have h2' : s.size ≤ 207 := by omega
  have h7 : 7 ≤ s.size := by omega
  have HM2 := Lib.hid (show mailOk s.data.toList = ((smallL (s.data.toList.take 7) == [109, 97, 105, 108, 116, 111, 58]) && (s.data.toList.drop 7).all mailB) by
    rw [HM.out, decide_eq_true (by rw [← HL.out]; omega), decide_eq_true (by rw [← HL.out]; omega)]; rfl)
  clear h1 h2 HM
  have hsm := small_any (s.extract 0 7) w (by simp; omega)
  have hfm := fun W => frontMail (s.extract 7 s.size) W (by simp; omega)
  rw [take_extract] at hsm
  rw [drop_extract] at hfm
  unfold FrontOut at hfm
  have HD := Lib.hid (drop_nil_all mailB (s.data.toList.drop 7))
  obtain ⟨t, ht⟩ : ∃ t, t = bs (smallL (s.data.toList.take 7)) := ⟨_, rfl⟩
  rw [← ht] at hsm
  have HT := Lib.hid (show smallL (s.data.toList.take 7) = t.toList by rw [toL, ht]; rfl)
  clear ht
  cases hb : (t.toList == ([109, 97, 105, 108, 116, 111, 58] : List UInt8)) with
  | false =>
    have hb2 : (t.toList != ([109, 97, 105, 108, 116, 111, 58] : List UInt8)) = true := by rw [bne, hb]; rfl
    have HV := Lib.hid (show mailOk s.data.toList = false by rw [HM2.out, HT.out, hb]; rfl)
    go_enter Tryz.func42, Tryz.ntmps42
    go_wp2_with fail
    refine hsm.mono ?_
    clear hsm
    rintro e w1 ⟨rfl, b1⟩
    go_wp2
    go_ret
    exact ⟨ret_bool HV.out.symm, b1⟩
  | true =>
    have hb2 : (t.toList != ([109, 97, 105, 108, 116, 111, 58] : List UInt8)) = false := by rw [bne, hb]; rfl
    have HV := Lib.hid (show mailOk s.data.toList = (s.data.toList.drop 7).all mailB by rw [HM2.out, HT.out, hb]; rfl)
    obtain ⟨r, hr⟩ : ∃ r, r = bs ((s.data.toList.drop 7).drop ((s.data.toList.drop 7).takeWhile mailB).length) := ⟨_, rfl⟩
    rw [← hr] at hfm
    have HR := Lib.hid (show (r.toList == ([] : List UInt8)) = (s.data.toList.drop 7).all mailB by
      rw [toL, hr, bs_list, Bool.eq_iff_iff, beq_iff_eq]; exact HD.out)
    generalize bs ((s.data.toList.drop 7).takeWhile mailB) = q at *
    clear hr
    go_enter Tryz.func42, Tryz.ntmps42
    go_wp2_with fail
    refine hsm.mono ?_
    clear hsm
    rintro e w1 ⟨rfl, b1⟩
    go_wp2_with fail
    refine (hfm w1).mono ?_
    clear hfm
    rintro e w2 ⟨rfl, b2⟩
    have B2 := b1.trans (b2.mono b1.size)
    go_wp2
    go_ret
    exact ⟨ret_bool (by rw [HV.out, ← HR.out]; cases r.toList <;> rfl), B2⟩
def safeL (l : List UInt8) : Bool := (parseL l).isSome || mailOk l
set_option maxRecDepth 100000 in
set_option maxHeartbeats 1000000 in
theorem safe_any (s : ByteArray) (w : World) (hE : Env w) (hs : s.size ≤ 9223372036854775807) : Calls Tryz.prog 20 #[.string s] w fun e w' => e = .returned (.bool (safeL s.data.toList)) ∧ Below w.heap.size w w' := by
  have hp := parse_any s w hE hs
  have hm := fun W => isMail_any s W hs
  have HS := Lib.hid (show safeL s.data.toList = ((parseL s.data.toList).isSome || mailOk s.data.toList) from rfl)
  unfold ParseOut lkV aggV at hp
  generalize parseL s.data.toList = f at *
  have HQ : ∀ w1 : World, LZ w1.heap.size (w1.alloc (.cells #[.string ⟨#[]⟩, .string ⟨#[]⟩, .int .i64 0, .string ⟨#[]⟩, .string ⟨#[]⟩, .string ⟨#[]⟩, .bool false, .bool false] 24)) := fun w1 => Blk.new _ w1
  cases f with
  | none =>
    simp only [Option.getD_none, Option.isSome_none, Bool.false_eq_true, if_false] at hp
    have HV := Lib.hid (show safeL s.data.toList = mailOk s.data.toList by rw [HS.out]; rfl)
    generalize Lk.zero = lk at *
    go_enter Tryz.func20, Tryz.ntmps20
    go_wp2_with fail
    refine hp.mono ?_
    clear hp
    rintro e w1 ⟨rfl, b1⟩
    have hA2 := HQ w1
    clear HQ
    go_wp2_with (guard_target =~ Go.wpList _ _ _ ({ dst := none, op := Go.Op.store 24 _ _, type := _, pos := _, after := _, guard := none } :: _) _ _; refine st24 rfl rfl hA2 ?_)
    intro w3 hA3 g3
    have B3 : Below w.heap.size w w3 := (b1.alloc b1.size _).grown g3 (by simp; exact Nat.le_succ_of_le b1.size) (fun k hk => by injection hk with hk; have := b1.size; omega)
    clear hA2 hA3 g3
    go_wp2_with fail
    refine (hm w3).mono ?_
    clear hm
    rintro e w4 ⟨rfl, b4⟩
    have B4 := B3.trans (b4.mono B3.size)
    go_wp2
    go_ret
    exact ⟨ret_bool HV.out.symm, B4⟩
  | some lk =>
    simp only [Option.getD_some, Option.isSome_some, if_true] at hp
    have HV := Lib.hid (show safeL s.data.toList = true by rw [HS.out]; rfl)
    go_enter Tryz.func20, Tryz.ntmps20
    go_wp2_with fail
    refine hp.mono ?_
    clear hp
    rintro e w1 ⟨rfl, b1⟩
    have hA2 := HQ w1
    clear HQ
    go_wp2_with (guard_target =~ Go.wpList _ _ _ ({ dst := none, op := Go.Op.store 24 _ _, type := _, pos := _, after := _, guard := none } :: _) _ _; refine st24 rfl rfl hA2 ?_)
    intro w3 hA3 g3
    have B3 : Below w.heap.size w w3 := (b1.alloc b1.size _).grown g3 (by simp; exact Nat.le_succ_of_le b1.size) (fun k hk => by injection hk with hk; have := b1.size; omega)
    clear hA2 hA3 g3
    go_wp2
    go_ret
    exact ⟨ret_bool HV.out.symm, B3⟩
end Go.Proofs.YtlgggibdgfdmhaaGreatDoor
