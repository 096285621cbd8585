/-
  Of the proofs of layer 8 (elements of XML): the parts YLB YLT YI YMa YMb YMc. No conditions.
-/
import Derived.Test.YtklcjimmbkpbdaaGreatDoorZ23
import Derived.Test.YtklcjimmbkpbdaaGreatDoorZ25
import Derived.Test.YtklcjimmbkpbdaaGreatDoorZ17
import Derived.Lib.ConvBytes
import Derived.Deep.DeepCutAuto
import Derived.Test.YtklcjimmbkpbdaaGreatDoorZ02
import Derived.Test.YtklcjimmbkpbdaaGreatDoorZ07
import Derived.Deep.RegionHeld3
import Derived.Deep.RegionLaw
namespace Go.Proofs.YtklcjimmbkpbdaaGreatDoor
open Go.RowKit
open Go.Lib
theorem add8 (a b : Bt) (h : a.length + b.length ≤ 9223372036854775807) (r : Bt) (hr : a ++ b = r) (W : World) : (Op.stringOp .add (bs a) (bs b)).run Tryz.prog W = .ok (.string (bs r)) W := by
 rw [run_string_add_sum W _ _ (by rw [bs_size, bs_size]; exact h), ← bs_app, hr]
theorem conv_str8 (w : World) (l : Bt) : ∃ C W3, (convert 9 22 (.string (bs l))).run Tryz.prog w = .ok (.slice (some ⟨w.heap.size, 0, none⟩) l.length C) W3 ∧ Below w.heap.size w W3 ∧ RB W3 (some ⟨w.heap.size, 0, none⟩) l := by
 have h := Lib.run_convert_string_bytes (P := Tryz.prog) w 9 22 5 (bs l) Tryz.underlying9 Tryz.underlying22 Tryz.underlying5
 rw [bs_size] at h
 refine ⟨_, _, h, ⟨rfl, rfl, rfl, by rw [bytesWorld_size]; omega, fun k hk => bytesWorld_at_old w _ _ k hk⟩, fun _ => ⟨w.heap.size, 0, rfl, by rw [bytesWorld_size]; omega, fun j hj => ?_⟩⟩
 rw [Nat.zero_add, bytesWorld_cell w _ _ j (by rw [bs_size]; exact hj), bs_list]
 rfl
theorem plain8_any (s : Bt) (hs : s.length ≤ 1000000) (W : World) : Calls Tryz.prog 26 #[.string (bs s)] W (fun e w' => e = .returned (.string (bs (enc ((pts s).filter inXml)))) ∧ Below W.heap.size W w') := by
 have := rplain_any (bs s) W (by rw [bs_size]; exact hs)
 rw [bs_list] at this
 exact this
def nmB (f : Bool) (c : UInt8) : Bool := if f = true then begB c else goB c
set_option maxRecDepth 100000 in
theorem letter_any (c : UInt8) (f : Bool) (w : World) : Calls Tryz.prog 70 #[.int .u8 c.toNat, .bool f] w fun e w' => e = .returned (.bool (nmB f c)) ∧ w = w' := by
 have hc := UInt8.toNat_lt c
 have HE : Hid (nmB f c = (begB c || (!f && decide (48 ≤ c.toNat ∧ c.toNat ≤ 57 ∨ c.toNat = 45 ∨ c.toNat = 46)))) := hid (by cases f <;> simp [nmB, goB])
 unfold begB at HE
 generalize nmB f c = r at *
 cases f
 ·go_enter Tryz.func70, Tryz.ntmps70
  go_wp2
  all_goals (go_ret; refine ⟨ret_b6 ?_, rfl⟩)
  all_goals (have h := HE.out; rw [h, Bool.eq_iff_iff]; simp; first | omega | (simp only [beq_iff_eq] at *; omega))
 ·go_enter Tryz.func70, Tryz.ntmps70
  go_wp2
  all_goals (go_ret; refine ⟨ret_b6 ?_, rfl⟩)
  all_goals (have h := HE.out; rw [h, Bool.eq_iff_iff]; simp; first | omega | (simp only [beq_iff_eq] at *; omega))
theorem plainB_valid (s : Bt) (h : plainB s = true) : validD s = true := by
 have h1 : enc ((pts s).filter inXml) = s := by simpa [plainB] using h
 rw [← h1]
 exact valid_enc _ (fun z hz => pts_allPt s z (List.mem_filter.1 hz).1)
set_option maxRecDepth 100000 in
theorem rplain8_any (s : Bt) (w : World) (hs : s.length ≤ 1000000) : Calls Tryz.prog 13 #[.string (bs s)] w (BoO (plainB s) w) := by
 have HV0 := rvalid_any (bs s) w (by rw [bs_size]; exact hs)
 rw [bs_list] at HV0
 have HV := hid HV0
 have HP := hid (fun W => plain8_any s hs W)
 have HB := hid (plainB_valid s)
 have HE : Hid (plainB s = (enc ((pts s).filter inXml) == s)) := hid rfl
 obtain ⟨b, hb⟩ : ∃ b, plainB s = b := ⟨_, rfl⟩
 obtain ⟨v, hv⟩ : ∃ b, validD s = b := ⟨_, rfl⟩
 obtain ⟨t, ht⟩ : ∃ t, enc ((pts s).filter inXml) = t := ⟨_, rfl⟩
 rw [hb, hv] at HB
 rw [hb, ht] at HE
 rw [hb]
 rw [hv] at HV
 rw [ht] at HP
 clear hb hv ht HV0
 cases v
 ·have HF : Hid (b = false) := hid (by cases b; rfl; exact (HB.out rfl).symm)
  clear HB HE HP
  go_enter Tryz.func13, Tryz.ntmps13
  go_wp2_with (go_at_call 35; (with_reducible refine HV.out.mono ?_); rintro e w1 ⟨rfl, b1⟩)
  go_ret
  exact BoO.of HF.out b1
 ·by_cases hts : t = s
  ·subst hts
   have HF : Hid (b = true) := hid (by rw [HE.out]; exact beq_self_eq_true _)
   clear HB HE
   go_enter Tryz.func13, Tryz.ntmps13
   go_wp2_with (first
    | (go_at_call 35; (with_reducible refine HV.out.mono ?_); rintro e w1 ⟨rfl, b1⟩; have HB1 := hid b1; clear b1)
    | (go_at_call 26; (with_reducible refine (HP.out _).mono ?_); rintro e w2 ⟨rfl, b2⟩; have HB2 := hid (HB1.out.trans (b2.mono HB1.out.size)); clear b2))
   go_ret
   exact BoO.of HF.out HB2.out
  ·have HF : Hid (b = false) := hid (by rw [HE.out]; simpa using hts)
   have hne : ¬ bs t = bs s := fun h => hts (bs_inj h)
   have hne3 : ¬ (bs t).toList = (bs s).toList := by rw [bs_toList, bs_toList]; exact hts
   clear HB HE hts
   generalize bs t = T at *
   generalize bs s = S at *
   go_enter Tryz.func13, Tryz.ntmps13
   go_wp2_with (first
    | (go_at_call 35; (with_reducible refine HV.out.mono ?_); rintro e w1 ⟨rfl, b1⟩; have HB1 := hid b1; clear b1)
    | (go_at_call 26; (with_reducible refine (HP.out _).mono ?_); rintro e w2 ⟨rfl, b2⟩; have HB2 := hid (HB1.out.trans (b2.mono HB1.out.size)); clear b2))
   go_ret
   exact BoO.of (HF.out.trans (beq_eq_false_iff_ne.2 hne3).symm) HB2.out
def TL (X : Nat) (s r : Bt) (w : World) : Prop := ∃ k, TS X s k w ∧ k + r.length = s.length ∧ s.drop k = r
theorem TL.of {X : Nat} {s : Bt} {k : Nat} {w : World} (h : TS X s k w) (hk : k ≤ s.length) : TL X s (s.drop k) w := ⟨k, h, by rw [List.length_drop]; omega, rfl⟩
theorem TL.off {X : Nat} {s r : Bt} {w w' : World} {F : Nat → Prop} (h : TL X s r w) (ho : Off F w w') (hF : ¬ F X) : TL X s r w' := by
 obtain ⟨k, h1, h2, h3⟩ := h
 exact ⟨k, h1.off ho hF, h2, h3⟩
theorem TL.below {X : Nat} {s r : Bt} {w w' : World} (h : TL X s r w) (hb : Below w.heap.size w w') : TL X s r w' := h.off (Off.of_below hb) (fun h => h)
theorem TL.lt {X : Nat} {s r : Bt} {w : World} (h : TL X s r w) : X < w.heap.size := by
 obtain ⟨k, h1, _⟩ := h
 exact h1.lt
theorem TL.le {X : Nat} {s r : Bt} {w : World} (h : TL X s r w) : r.length ≤ s.length := by
 obtain ⟨k, _, h2, _⟩ := h
 omega
theorem TL.at {X : Nat} {s r : Bt} {w : World} (h : TL X s r w) : atOf X w + r.length = s.length := by
 obtain ⟨k, h1, h2, _⟩ := h
 rw [h1.at]
 exact h2
abbrev OX (X : Nat) (w w' : World) : Prop := Off (fun b => b = X) w w'
theorem OX.trans {X : Nat} {a b c : World} (h1 : OX X a b) (h2 : OX X b c) : OX X a c := Off.trans h1 h2 (fun _ h => .inl h)
theorem OX.of {X : Nat} {w w' : World} (h : Below w.heap.size w w') : OX X w w' := (Off.of_below h).mono (fun _ h => h.elim)
theorem bl_num8 {c : UInt8} (h : isBl c = false) : ((c.toNat : Int) == 32) = false ∧ ((c.toNat : Int) == 9) = false ∧ ((c.toNat : Int) == 10) = false ∧ ((c.toNat : Int) == 13) = false := by
 unfold isBl at h
 simp only [Bool.or_eq_false_iff, beq_eq_false_iff_ne] at h
 obtain ⟨⟨⟨h1, h2⟩, h3⟩, h4⟩ := h
 have ne : ∀ d : UInt8, c ≠ d → ((c.toNat : Int) == (d.toNat : Int)) = false := fun d hd => by
  rw [beq_eq_false_iff_ne]
  intro e
  have e2 : c.toNat = d.toNat := by omega
  exact hd (UInt8.toNat_inj.1 e2)
 exact ⟨ne 32 h1, ne 9 h2, ne 10 h3, ne 13 h4⟩
theorem bl_eq8 {c : UInt8} (h : isBl c = true) : c = 32 ∨ c = 9 ∨ c = 10 ∨ c = 13 := by
 unfold isBl at h
 simp only [Bool.or_eq_true, beq_iff_eq] at h
 rcases h with ((h | h) | h) | h
 ·exact .inl h
 ·exact .inr (.inl h)
 ·exact .inr (.inr (.inl h))
 ·exact .inr (.inr (.inr h))
set_option maxRecDepth 100000 in
set_option maxHeartbeats 1000000 in
theorem tblanks8 {X : Nat} {s r : Bt} {w : World} (h : TL X s r w) (hs : s.length ≤ 1000000000) :
    Calls Tryz.prog 54 #[.pointer (some ⟨X, 0, none⟩)] w fun e w' => e = .returned (.int .i64 ((r.length : Int) - ((blanksL r).length : Int))) ∧ TL X s (blanksL r) w' ∧ OX X w w' := by
 obtain ⟨k, h, hk0, hr⟩ := h
 have HR0 := hid hr
 obtain ⟨n, hn⟩ : ∃ n, s.length = n := ⟨_, rfl⟩
 have hsz : (bs s).size = n := by rw [bs_size, hn]
 have HN := hid hn
 have hk : k ≤ n := by omega
 have HK0 := hid hk0
 rw [hn] at hs
 have H0 := hid h
 clear hn h hk0 hr
 go_enter Tryz.func54, Tryz.ntmps54
 have c1 := H0.out.c1
 go_wp2
 clear c1
 go_loopw [] (fun wr => ∃ j, k ≤ j ∧ j ≤ n ∧ Hid (TS X s j wr) ∧ Hid (blanksL (s.drop j) = blanksL r) ∧ Hid (OX X w wr)) (fun wr => n - atOf X wr)
 case atStart => exact ⟨k, Nat.le_refl _, hk, H0, hid (by rw [HR0.out]), hid (Off.refl _ _)⟩
 case round =>
  clear H0
  obtain ⟨j, hkj, hjn, HT, HB, HO⟩ := hrel
  have hat := HT.out.at
  have HAT := hid hat
  clear hat
  have c0 := HT.out.c0
  have c1 := HT.out.c1
  by_cases hjl : j < n
  ·have hjs : j < s.length := by rw [HN.out]; exact hjl
   have hdr := drop_a8 s j hjs
   obtain ⟨c, hc⟩ : ∃ c, s[j] = c := ⟨_, rfl⟩
   have hdk : decide ((j : Int) < (n : Int)) = true := decide_eq_true (by omega)
   have i0' : (0 : Int) ≤ (j : Int) := by omega
   have i1' : (j : Int) < (n : Int) := by omega
   have HDR := hid hdr
   have HC := hid hc
   clear hdr
   by_cases hb : isBl c = true
   ·have HB2 : Hid (blanksL (s.drop (j + 1)) = blanksL r) := hid (by
     rw [← HB.out, HDR.out, HC.out]
     unfold blanksL
     rw [List.dropWhile_cons_of_pos hb])
    have HX := hid (fun z (hz : (s[j].toNat : Int) = z) W => byte_run8 s j z hjs hz W)
    rw [hc] at HX
    clear hc
    rcases bl_eq8 hb with rfl | rfl | rfl | rfl
    ·have hix := HX.out 32 rfl
     clear hb
     go_wp2
     go_quiet (fail)
     obtain ⟨Z, hZ⟩ : ∃ Z, Z = wr.drewN nq := ⟨_, rfl⟩
     rw [← hZ]
     have hTZ : TS X s j Z := by rw [hZ]; exact HT.out.drewN nq
     have HOZ : Hid (OX X w Z) := hid (by rw [hZ]; exact HO.out.drewN nq)
     have z1 := hTZ.c1
     have zf := hTZ.free 1
     have HTZ := hid hTZ
     have HNW : Hid (TS X s (j + 1) (Z.setCell ⟨X, 1, none⟩ (.int .i64 ((j : Int) + 1)))) := hid (hTZ.set (j + 1))
     clear hTZ hZ
     go_wp2
     exact ⟨⟨j + 1, by omega, by omega, HNW, HB2, hid (OX.trans HOZ.out (off_set8 _ _ _ _))⟩, by rw [HNW.out.at, HAT.out]; omega⟩
    ·have hix := HX.out 9 rfl
     clear hb
     go_wp2
     go_quiet (fail)
     obtain ⟨Z, hZ⟩ : ∃ Z, Z = wr.drewN nq := ⟨_, rfl⟩
     rw [← hZ]
     have hTZ : TS X s j Z := by rw [hZ]; exact HT.out.drewN nq
     have HOZ : Hid (OX X w Z) := hid (by rw [hZ]; exact HO.out.drewN nq)
     have z1 := hTZ.c1
     have zf := hTZ.free 1
     have HTZ := hid hTZ
     have HNW : Hid (TS X s (j + 1) (Z.setCell ⟨X, 1, none⟩ (.int .i64 ((j : Int) + 1)))) := hid (hTZ.set (j + 1))
     clear hTZ hZ
     go_wp2
     exact ⟨⟨j + 1, by omega, by omega, HNW, HB2, hid (OX.trans HOZ.out (off_set8 _ _ _ _))⟩, by rw [HNW.out.at, HAT.out]; omega⟩
    ·have hix := HX.out 10 rfl
     clear hb
     go_wp2
     go_quiet (fail)
     obtain ⟨Z, hZ⟩ : ∃ Z, Z = wr.drewN nq := ⟨_, rfl⟩
     rw [← hZ]
     have hTZ : TS X s j Z := by rw [hZ]; exact HT.out.drewN nq
     have HOZ : Hid (OX X w Z) := hid (by rw [hZ]; exact HO.out.drewN nq)
     have z1 := hTZ.c1
     have zf := hTZ.free 1
     have HTZ := hid hTZ
     have HNW : Hid (TS X s (j + 1) (Z.setCell ⟨X, 1, none⟩ (.int .i64 ((j : Int) + 1)))) := hid (hTZ.set (j + 1))
     clear hTZ hZ
     go_wp2
     exact ⟨⟨j + 1, by omega, by omega, HNW, HB2, hid (OX.trans HOZ.out (off_set8 _ _ _ _))⟩, by rw [HNW.out.at, HAT.out]; omega⟩
    ·have hix := HX.out 13 rfl
     clear hb
     go_wp2
     go_quiet (fail)
     obtain ⟨Z, hZ⟩ : ∃ Z, Z = wr.drewN nq := ⟨_, rfl⟩
     rw [← hZ]
     have hTZ : TS X s j Z := by rw [hZ]; exact HT.out.drewN nq
     have HOZ : Hid (OX X w Z) := hid (by rw [hZ]; exact HO.out.drewN nq)
     have z1 := hTZ.c1
     have zf := hTZ.free 1
     have HTZ := hid hTZ
     have HNW : Hid (TS X s (j + 1) (Z.setCell ⟨X, 1, none⟩ (.int .i64 ((j : Int) + 1)))) := hid (hTZ.set (j + 1))
     clear hTZ hZ
     go_wp2
     exact ⟨⟨j + 1, by omega, by omega, HNW, HB2, hid (OX.trans HOZ.out (off_set8 _ _ _ _))⟩, by rw [HNW.out.at, HAT.out]; omega⟩
   ·have hbf : isBl c = false := by simpa using hb
    obtain ⟨e1, e2, e3, e4⟩ := bl_num8 hbf
    obtain ⟨z, hz⟩ : ∃ z, (c.toNat : Int) = z := ⟨_, rfl⟩
    have hix := byte_run8 s j z hjs (by rw [hc]; exact hz)
    have HE : Hid (s.drop j = blanksL r) := hid (by rw [← HB.out, HDR.out, HC.out]; unfold blanksL; rw [List.dropWhile_cons_of_neg (by rw [hbf]; exact Bool.false_ne_true)])
    rw [hz] at e1 e2 e3 e4
    clear hz hc hb hbf
    go_wp2
    go_quiet (fail)
    obtain ⟨Z, hZ⟩ : ∃ Z, Z = wr.drewN nq := ⟨_, rfl⟩
    rw [← hZ]
    have hTZ : TS X s j Z := by rw [hZ]; exact HT.out.drewN nq
    have HOZ : Hid (OX X w Z) := hid (by rw [hZ]; exact HO.out.drewN nq)
    have z1 := hTZ.c1
    have hwr : IntKind.i64.wrap ((j : Int) - (k : Int)) = (j : Int) - (k : Int) := IntWalk.i64_in _ (by omega)
    have HTZ := hid hTZ
    clear hTZ hZ c0 c1
    go_wp2
    go_ret
    refine ⟨?_, ⟨j, HTZ.out, ?_, HE.out⟩, HOZ.out⟩
    ·rw [← HE.out, List.length_drop, HN.out, show ((r.length : Nat) : Int) - ((n - j : Nat) : Int) = (j : Int) - (k : Int) by have := HK0.out; rw [HN.out] at this; omega]
     rfl
    ·rw [← HE.out, List.length_drop]
     omega
  ·obtain rfl : j = n := by omega
   have hdk : decide ((j : Int) < (j : Int)) = false := decide_eq_false (by omega)
   have HE : Hid (s.drop j = blanksL r) := hid (by rw [← HB.out, List.drop_of_length_le (by rw [HN.out]; exact Nat.le_refl _)]; rfl)
   go_wp2
   go_quiet (fail)
   obtain ⟨Z, hZ⟩ : ∃ Z, Z = wr.drewN nq := ⟨_, rfl⟩
   rw [← hZ]
   have hTZ : TS X s j Z := by rw [hZ]; exact HT.out.drewN nq
   have HOZ : Hid (OX X w Z) := hid (by rw [hZ]; exact HO.out.drewN nq)
   have z1 := hTZ.c1
   have hwr : IntKind.i64.wrap ((j : Int) - (k : Int)) = (j : Int) - (k : Int) := IntWalk.i64_in _ (by omega)
   have HTZ := hid hTZ
   clear hTZ hZ c0 c1
   go_wp2
   go_ret
   refine ⟨?_, ⟨j, HTZ.out, ?_, HE.out⟩, HOZ.out⟩
   ·rw [← HE.out, List.length_drop, HN.out, show ((r.length : Nat) : Int) - ((j - j : Nat) : Int) = (j : Int) - (k : Int) by have := HK0.out; rw [HN.out] at this; omega]
    rfl
   ·rw [← HE.out, List.length_drop, HN.out]
    omega
set_option maxRecDepth 100000 in
theorem tlword {X : Nat} {s r : Bt} {w : World} (h : TL X s r w) (hs : s.length ≤ 1000000000) (wd : Bt) (h0 : wd ≠ []) (hw : wd.length ≤ 1000) (o : Option Bt) (ho : wordL wd r = o) :
    Calls Tryz.prog 33 #[.pointer (some ⟨X, 0, none⟩), .string (bs wd)] w fun e w' => e = .returned (.bool o.isSome) ∧ TL X s (o.getD r) w' ∧ OX X w w' := by
 obtain ⟨k, h, hk0, hr⟩ := h
 refine (tword_any h (by omega) hs wd h0 hw _ rfl).mono ?_
 rintro e w' ⟨rfl, h2, h3⟩
 have hpb : preB s k wd = wd.isPrefixOf r := by unfold preB; rw [hr]
 have hoo : wordL wd r = if wd.isPrefixOf r = true then some (r.drop wd.length) else none := rfl
 rw [ho] at hoo
 rw [hpb] at h2 ⊢
 cases hp : wd.isPrefixOf r with
 | true =>
  rw [hp, if_pos rfl] at hoo
  rw [hp, if_pos rfl] at h2
  subst hoo
  have hl := (List.isPrefixOf_iff_prefix.1 hp).length_le
  refine ⟨rfl, ⟨k + wd.length, h2, ?_, ?_⟩, h3⟩
  ·show k + wd.length + (r.drop wd.length).length = s.length
   rw [List.length_drop]
   omega
  ·show s.drop (k + wd.length) = r.drop wd.length
   rw [← hr, List.drop_drop]
 | false =>
  rw [hp, if_neg Bool.false_ne_true] at hoo
  rw [hp, if_neg Bool.false_ne_true] at h2
  subst hoo
  exact ⟨rfl, ⟨k, h2, hk0, hr⟩, h3⟩
def WdC (X : Nat) (s wd : Bt) (lit : ByteArray) : Prop := ∀ W r o, TL X s r W → wordL wd r = o → Calls Tryz.prog 33 #[.pointer (some ⟨X, 0, none⟩), .string lit] W (fun e w' => e = .returned (.bool o.isSome) ∧ TL X s (o.getD r) w' ∧ OX X W w')
theorem wdC (X : Nat) {s : Bt} (hs : s.length ≤ 1000000000) (wd : Bt) (h0 : wd ≠ []) (hw : wd.length ≤ 1000) : WdC X s wd (bs wd) := fun _ _ o h ho => tlword h hs wd h0 hw o ho
theorem tllooks {X : Nat} {s r : Bt} {w : World} (h : TL X s r w) (hs : s.length ≤ 1000000000) (wd : Bt) (h0 : wd ≠ []) (hw : wd.length ≤ 1000) (ob : Bool) (ho : wd.isPrefixOf r = ob) :
    Calls Tryz.prog 31 #[.pointer (some ⟨X, 0, none⟩), .string (bs wd)] w fun e w' => e = .returned (.bool ob) ∧ Below w.heap.size w w' := by
 obtain ⟨k, h, hk0, hr⟩ := h
 exact tlooks_any h (by omega) hs wd h0 hw ob (by unfold preB; rw [hr, ho])
theorem to_look {wd t : Bt} (h0 : wd ≠ []) (h : wd.isPrefixOf t = true) : toL wd t = some ([], t.drop wd.length) := by
 cases t with
 | nil =>
  have := (List.isPrefixOf_iff_prefix.1 h).length_le
  exact absurd (List.eq_nil_of_length_eq_zero (by simpa using this)) h0
 | cons c t => rw [toL, if_pos h]
theorem to_step {wd s : Bt} {j : Nat} (h : wd.isPrefixOf (s.drop j) = false) : toL wd (s.drop j) = (toL wd (s.drop (j + 1))).map fun x => ((s.drop j).take 1 ++ x.1, x.2) := by
 by_cases hj : j < s.length
 ·have e := drop_a8 s j hj
  rw [e] at h ⊢
  rw [toL, if_neg (by rw [h]; exact Bool.false_ne_true)]
  rfl
 ·rw [List.drop_of_length_le (by omega), List.drop_of_length_le (by omega)]
  rfl
theorem take_more {s : Bt} {k j : Nat} (h : k ≤ j) : (s.drop k).take (j + 1 - k) = (s.drop k).take (j - k) ++ (s.drop j).take 1 := by
 rw [show j + 1 - k = (j - k) + 1 by omega, List.take_add, List.drop_drop, show k + (j - k) = j by omega]
def toV (o : Option (Bt × Bt)) : Value := .tuple #[.string (bs ((o.map (·.1)).getD [])), .bool o.isSome]
set_option maxRecDepth 100000 in
set_option maxHeartbeats 1000000 in
theorem tto8 {X : Nat} {s r : Bt} {w : World} (h : TL X s r w) (hs : s.length ≤ 1000000000) (wd : Bt) (h0 : wd ≠ []) (hw : wd.length ≤ 1000) (o : Option (Bt × Bt)) (ho : toL wd r = o) :
    Calls Tryz.prog 84 #[.pointer (some ⟨X, 0, none⟩), .string (bs wd)] w fun e w' => e = .returned (toV o) ∧ TL X s ((o.map (·.2)).getD []) w' ∧ OX X w w' := by
 obtain ⟨k, h, hk0, hr⟩ := h
 obtain ⟨n, hn⟩ : ∃ n, s.length = n := ⟨_, rfl⟩
 have hsz : (bs s).size = n := by rw [bs_size, hn]
 have HN := hid hn
 have hk : k ≤ n := by omega
 have HLK := hid (fun W j (h : TS X s j W) (hj : j ≤ n) ob hob => tlooks_any h (by omega) hs wd h0 hw ob hob)
 have HLO := hid (fun (j : Nat) (h : preB s j wd = true) => to_look h0 h)
 have HST := hid (fun (j : Nat) (h : preB s j wd = false) => to_step h)
 have HSL := hid (fun (j : Nat) (h1 : k ≤ j) (h2 : j ≤ n) W => slice_mid s k (j - k) (j : Int) (by omega) (by omega) _ rfl W)
 have HPR : Hid (∀ j, preB s j wd = true → j + wd.length ≤ n) := hid (fun j hj => by
  have := (List.isPrefixOf_iff_prefix.1 (show wd.isPrefixOf (s.drop j) = true from hj)).length_le
  rw [List.length_drop] at this
  have : 0 < wd.length := List.length_pos_iff.2 h0
  omega)
 obtain ⟨m, hm⟩ : ∃ n, wd.length = n := ⟨_, rfl⟩
 have hwz : (bs wd).size = m := by rw [bs_size, hm]
 rw [hn] at hs
 rw [hm] at hw HLO HPR
 have H0 := hid h
 have HR0 : Hid (o = (toL wd (s.drop k)).map fun x => ((s.drop k).take (k - k) ++ x.1, x.2)) := hid (by
  rw [Nat.sub_self, List.take_zero, hr, ho]
  cases o <;> rfl)
 clear hn h hk0 hr h0 hm ho
 generalize bs wd = WD at *
 go_enter Tryz.func84, Tryz.ntmps84
 have c1 := H0.out.c1
 go_wp2
 clear c1
 go_loopw [] (fun wr => ∃ j, k ≤ j ∧ j ≤ n + 1 ∧ Hid (TS X s j wr) ∧ Hid (o = (toL wd (s.drop j)).map fun x => ((s.drop k).take (j - k) ++ x.1, x.2)) ∧ Hid (OX X w wr)) (fun wr => n + 1 - atOf X wr)
 case atStart => exact ⟨k, Nat.le_refl _, by omega, H0, HR0, hid (Off.refl _ _)⟩
 case round =>
  clear H0 HR0
  obtain ⟨j, hkj, hjn, HT, HB, HO⟩ := hrel
  have hat := HT.out.at
  have HAT := hid hat
  clear hat
  have c0 := HT.out.c0
  have c1 := HT.out.c1
  by_cases hjl : j ≤ n
  ·have hdk : decide ((j : Int) ≤ (n : Int)) = true := decide_eq_true (by omega)
   have hdi : (j : Int) ≤ (n : Int) := by omega
   cases hp : preB s j wd with
   | true =>
    have hsl := HSL.out j hkj hjl
    have hjm := HPR.out j hp
    have HOE : Hid (o = some ((s.drop k).take (j - k), s.drop (j + m))) := hid (by rw [HB.out, HLO.out j hp, Option.map_some, List.append_nil, List.drop_drop])
    have HL := hid (fun W h => HLK.out W j h hjl true hp)
    obtain ⟨x, hx⟩ : ∃ x, (s.drop k).take (j - k) = x := ⟨_, rfl⟩
    rw [hx] at hsl HOE
    clear hp hx
    go_wp2
    go_quiet (fail)
    obtain ⟨Z, hZ⟩ : ∃ Z, Z = wr.drewN nq := ⟨_, rfl⟩
    rw [← hZ]
    have hTZ : TS X s j Z := by rw [hZ]; exact HT.out.drewN nq
    have HOZ : Hid (OX X w Z) := hid (by rw [hZ]; exact HO.out.drewN nq)
    have HTZ := hid hTZ
    clear hTZ hZ c0 c1
    go_wp2_with fail
    refine (HL.out _ HTZ.out).mono ?_
    rintro e w1 ⟨rfl, b1⟩
    have HT1 := hid (HTZ.out.below b1)
    have HO1 := hid (OX.trans HOZ.out (OX.of b1))
    have c0 := HT1.out.c0
    have c1 := HT1.out.c1
    have i0' : (0 : Int) ≤ (k : Int) := by omega
    have i1' : (k : Int) ≤ (j : Int) := by omega
    have i2' : (j : Int) ≤ (n : Int) := by omega
    clear b1 HTZ HOZ
    go_wp2
    go_quiet (fail)
    obtain ⟨Y, hY⟩ : ∃ Z, Z = w1.drewN nq := ⟨_, rfl⟩
    rw [← hY]
    have hTY : TS X s j Y := by rw [hY]; exact HT1.out.drewN nq
    have HOY : Hid (OX X w Y) := hid (by rw [hY]; exact HO1.out.drewN nq)
    have z1 := hTY.c1
    have zf := hTY.free 1
    have hwr2 : IntKind.i64.wrap ((j : Int) + (m : Int)) = (j : Int) + (m : Int) := IntWalk.i64_in _ (by omega)
    have HNW : Hid (TS X s (j + m) (Y.setCell ⟨X, 1, none⟩ (.int .i64 ((j : Int) + (m : Int))))) := hid (hTY.set (j + m))
    clear hTY hY c0 c1
    go_wp2
    go_ret2
    refine ⟨by rw [HOE.out]; rfl, ⟨j + m, HNW.out, ?_, ?_⟩, OX.trans HOY.out (off_set8 _ _ _ _)⟩
    ·rw [HOE.out]
     show j + m + (s.drop (j + m)).length = s.length
     rw [List.length_drop, HN.out]
     omega
    ·rw [HOE.out]
     rfl
   | false =>
    have HOE : Hid (o = (toL wd (s.drop (j + 1))).map fun x => ((s.drop k).take (j + 1 - k) ++ x.1, x.2)) := hid (by
     rw [HB.out, HST.out j hp, take_more hkj, Option.map_map]
     congr 1
     funext x
     simp only [Function.comp, List.append_assoc])
    have HL := hid (fun W h => HLK.out W j h hjl false hp)
    clear hp
    go_wp2
    go_quiet (fail)
    obtain ⟨Z, hZ⟩ : ∃ Z, Z = wr.drewN nq := ⟨_, rfl⟩
    rw [← hZ]
    have hTZ : TS X s j Z := by rw [hZ]; exact HT.out.drewN nq
    have HOZ : Hid (OX X w Z) := hid (by rw [hZ]; exact HO.out.drewN nq)
    have HTZ := hid hTZ
    clear hTZ hZ c0 c1
    go_wp2_with fail
    refine (HL.out _ HTZ.out).mono ?_
    rintro e w1 ⟨rfl, b1⟩
    have hT1 := HTZ.out.below b1
    have HO1 := hid (OX.trans HOZ.out (OX.of b1))
    have z1 := hT1.c1
    have zf := hT1.free 1
    have HNW : Hid (TS X s (j + 1) (w1.setCell ⟨X, 1, none⟩ (.int .i64 ((j : Int) + 1)))) := hid (hT1.set (j + 1))
    clear b1 HTZ HOZ hT1
    go_wp2
    exact ⟨⟨j + 1, by omega, by omega, HNW, HOE, hid (OX.trans HO1.out (off_set8 _ _ _ _))⟩, by rw [HNW.out.at, HAT.out]; omega⟩
  ·obtain rfl : j = n + 1 := by omega
   have hdk : decide (((n + 1 : Nat) : Int) ≤ (n : Int)) = false := decide_eq_false (by omega)
   have hdi : ¬ ((n + 1 : Nat) : Int) ≤ (n : Int) := by omega
   have hdk2 : decide ((n : Int) + 1 ≤ (n : Int)) = false := decide_eq_false (by omega)
   have hdi2 : ¬ (n : Int) + 1 ≤ (n : Int) := by omega
   have HOE : Hid (o = none) := hid (by rw [HB.out, show s.drop (n + 1) = [] from List.drop_of_length_le (by rw [HN.out]; omega)]; rfl)
   go_wp2
   go_quiet (fail)
   obtain ⟨Y, hY⟩ : ∃ Z, Z = wr.drewN nq := ⟨_, rfl⟩
   rw [← hY]
   have hTY : TS X s (n + 1) Y := by rw [hY]; exact HT.out.drewN nq
   have HOY : Hid (OX X w Y) := hid (by rw [hY]; exact HO.out.drewN nq)
   have z0 := hTY.c0
   have z1 := hTY.c1
   have zf := hTY.free 1
   have HNW : Hid (TS X s n (Y.setCell ⟨X, 1, none⟩ (.int .i64 (n : Int)))) := hid (hTY.set n)
   clear hTY hY c0 c1
   go_wp2
   go_ret2
   refine ⟨by rw [HOE.out]; rfl, ⟨n, HNW.out, ?_, ?_⟩, OX.trans HOY.out (off_set8 _ _ _ _)⟩
   ·rw [HOE.out, HN.out]
    rfl
   ·rw [HOE.out, List.drop_of_length_le (by rw [HN.out]; exact Nat.le_refl _)]
    rfl
theorem tw_len {p : UInt8 → Bool} : ∀ (t : Bt) (m : Nat), m ≤ t.length → (∀ i (h : i < t.length), i < m → p t[i] = true) → (∀ (h : m < t.length), p t[m] = false) → (t.takeWhile p).length = m
 | [], m, hm, _, _ => by
  have : m = 0 := by simpa using hm
  rw [this]
  rfl
 | c :: t, 0, _, _, h2 => by
  have h := h2 (Nat.zero_lt_succ _)
  rw [List.takeWhile_cons_of_neg (by rw [show p c = false from h]; exact Bool.false_ne_true)]
  rfl
 | c :: t, m + 1, hm, h1, h2 => by
  have h : p c = true := h1 0 (Nat.zero_lt_succ _) (Nat.zero_lt_succ _)
  rw [List.takeWhile_cons_of_pos h, List.length_cons, tw_len t m (by simpa using hm) (fun i hi him => h1 (i + 1) (by simpa using hi) (by omega)) (fun hm2 => h2 (by simpa using hm2))]
theorem name_len (r : Bt) (m : Nat) (hm : m ≤ r.length) (h1 : ∀ i (h : i < r.length), i < m → nmB (decide (i = 0)) r[i] = true) (h2 : ∀ (h : m < r.length), nmB (decide (m = 0)) r[m] = false) : nameW r = m := by
 cases r with
 | nil =>
  have : m = 0 := by simpa using hm
  rw [this]
  rfl
 | cons c t =>
  cases m with
  | zero =>
   have h : begB c = false := h2 (Nat.zero_lt_succ _)
   rw [nameW, if_neg (by rw [h]; exact Bool.false_ne_true)]
  | succ m =>
   have h : begB c = true := h1 0 (Nat.zero_lt_succ _) (Nat.zero_lt_succ _)
   rw [nameW, if_pos h, tw_len t m (by simpa using hm) (fun i hi him => by have := h1 (i + 1) (by simpa using hi) (by omega); simpa [nmB] using this) (fun hm2 => by have := h2 (by simpa using hm2); simpa [nmB] using this)]
   omega
set_option maxRecDepth 100000 in
set_option maxHeartbeats 1000000 in
theorem tname8 {X : Nat} {s r : Bt} {w : World} (h : TL X s r w) (hs : s.length ≤ 1000000000) :
    Calls Tryz.prog 85 #[.pointer (some ⟨X, 0, none⟩)] w fun e w' => e = .returned (.string (bs (r.take (nameW r)))) ∧ TL X s (r.drop (nameW r)) w' ∧ OX X w w' := by
 obtain ⟨k, h, hk0, hr⟩ := h
 obtain ⟨n, hn⟩ : ∃ n, s.length = n := ⟨_, rfl⟩
 have hsz : (bs s).size = n := by rw [bs_size, hn]
 have HN := hid hn
 have hk : k ≤ n := by omega
 have HSL := hid (fun (j : Nat) (h1 : k ≤ j) (h2 : j ≤ n) W => slice_mid s k (j - k) (j : Int) (by omega) (by omega) _ rfl W)
 have HNL : Hid (∀ j, k ≤ j → j ≤ n → (∀ i (h : i < s.length), k ≤ i → i < j → nmB (decide (i = k)) s[i] = true) → (∀ (h : j < s.length), nmB (decide (j = k)) s[j] = false) → nameW r = j - k) := hid (fun j h1 h2 h3 h4 => by
  have hg : ∀ i (h : i < r.length) (h' : k + i < s.length), r[i] = s[k + i] := fun i h h' => by
   simp only [← hr, List.getElem_drop]
  refine name_len r (j - k) (by omega) (fun i hi him => ?_) (fun hm => ?_)
  ·rw [hg i hi (by omega)]
   have := h3 (k + i) (by omega) (by omega) (by omega)
   rwa [show decide (k + i = k) = decide (i = 0) from decide_eq_decide.2 (by omega)] at this
  ·rw [hg _ hm (by omega)]
   have := h4 (by omega)
   have e : k + (j - k) = j := by omega
   rw [show decide (j = k) = decide (j - k = 0) from decide_eq_decide.2 (by omega)] at this
   simp only [e]
   exact this)
 have HR0 := hid hr
 have HK0 := hid hk0
 rw [hn] at hs
 have H0 := hid h
 clear hn h hk0 hr
 go_enter Tryz.func85, Tryz.ntmps85
 have c1 := H0.out.c1
 go_wp2
 clear c1
 go_loopw [] (fun wr => ∃ j, k ≤ j ∧ j ≤ n ∧ Hid (TS X s j wr) ∧ Hid (∀ i (h : i < s.length), k ≤ i → i < j → nmB (decide (i = k)) s[i] = true) ∧ Hid (OX X w wr)) (fun wr => n - atOf X wr)
 case atStart => exact ⟨k, Nat.le_refl _, hk, H0, hid (fun i _ h1 h2 => by omega), hid (Off.refl _ _)⟩
 case round =>
  clear H0
  obtain ⟨j, hkj, hjn, HT, HB, HO⟩ := hrel
  have hat := HT.out.at
  have HAT := hid hat
  clear hat
  have c0 := HT.out.c0
  have c1 := HT.out.c1
  by_cases hjl : j < n
  ·have hjs : j < s.length := by rw [HN.out]; exact hjl
   have hdk : decide ((j : Int) < (n : Int)) = true := decide_eq_true (by omega)
   have hdi : (j : Int) < (n : Int) := by omega
   have i0' : (0 : Int) ≤ (j : Int) := by omega
   have hix := byte_run8 s j _ hjs rfl
   have HNX : Hid (nmB (decide (j = k)) s[j] = true → ∀ i (h : i < s.length), k ≤ i → i < j + 1 → nmB (decide (i = k)) s[i] = true) := hid (fun hq i hi h1 h2 => by
    rcases Nat.lt_or_ge i j with h3 | h3
    ·exact HB.out i hi h1 h3
    ·obtain rfl : i = j := by omega
     exact hq)
   have HEX : Hid (nmB (decide (j = k)) s[j] = false → nameW r = j - k) := hid (fun hq => HNL.out j hkj hjn HB.out (fun _ => hq))
   obtain ⟨c, hc⟩ : ∃ c, s[j] = c := ⟨_, rfl⟩
   rw [hc] at hix HNX HEX
   obtain ⟨f, hf⟩ : ∃ f, decide (j = k) = f := ⟨_, rfl⟩
   rw [hf] at HNX HEX
   have hq1 : ((j : Int) == (k : Int)) = f := by rw [← hf, Bool.eq_iff_iff]; simp; omega
   have hq2 : decide ((j : Int) = (k : Int)) = f := by rw [← hf]; exact decide_eq_decide.2 (by omega)
   obtain ⟨g, hg⟩ : ∃ g, nmB f c = g := ⟨_, rfl⟩
   have HL : Hid (∀ W, Calls Tryz.prog 70 #[.int .u8 c.toNat, .bool f] W (fun e w' => e = .returned (.bool g) ∧ w' = W)) := hid (fun W => (letter_any c f W).mono (fun e w' h => ⟨by rw [h.1, hg], h.2.symm⟩))
   rw [hg] at HNX HEX
   clear hc hf hg
   cases g with
   | true =>
    have HB2 := hid (HNX.out rfl)
    clear HNX HEX
    go_wp2
    go_quiet (with_reducible exact Calls.quiet_of_same (HL.out _))
    obtain ⟨Z, hZ⟩ : ∃ Z, Z = wr.drewN nq := ⟨_, rfl⟩
    rw [← hZ]
    have hTZ : TS X s j Z := by rw [hZ]; exact HT.out.drewN nq
    have HOZ : Hid (OX X w Z) := hid (by rw [hZ]; exact HO.out.drewN nq)
    have z1 := hTZ.c1
    have zf := hTZ.free 1
    have HTZ := hid hTZ
    have HNW : Hid (TS X s (j + 1) (Z.setCell ⟨X, 1, none⟩ (.int .i64 ((j : Int) + 1)))) := hid (hTZ.set (j + 1))
    clear hTZ hZ
    go_wp2
    exact ⟨⟨j + 1, by omega, by omega, HNW, HB2, hid (OX.trans HOZ.out (off_set8 _ _ _ _))⟩, by rw [HNW.out.at, HAT.out]; omega⟩
   | false =>
    have HE := hid (HEX.out rfl)
    have hsl := HSL.out j hkj hjn
    clear HNX HEX
    go_wp2
    go_quiet (with_reducible exact Calls.quiet_of_same (HL.out _))
    obtain ⟨x, hx⟩ : ∃ x, (s.drop k).take (j - k) = x := ⟨_, rfl⟩
    rw [hx] at hsl
    have HX9 : Hid (r.take (nameW r) = x) := hid (by rw [HE.out, ← HR0.out, hx])
    obtain ⟨Z, hZ⟩ : ∃ Z, Z = wr.drewN nq := ⟨_, rfl⟩
    rw [← hZ]
    have hTZ : TS X s j Z := by rw [hZ]; exact HT.out.drewN nq
    have HOZ : Hid (OX X w Z) := hid (by rw [hZ]; exact HO.out.drewN nq)
    have z0 := hTZ.c0
    have z1 := hTZ.c1
    have HTZ := hid hTZ
    have i1' : (0 : Int) ≤ (k : Int) := by omega
    have i2' : (k : Int) ≤ (j : Int) := by omega
    have i3' : (j : Int) ≤ (n : Int) := by omega
    clear hTZ hZ c0 c1 hx
    go_wp2
    go_quiet (fail)
    obtain ⟨Y, hY⟩ : ∃ Y, Y = Z.drewN nq := ⟨_, rfl⟩
    rw [← hY]
    have HTY : Hid (TS X s j Y) := hid (by rw [hY]; exact HTZ.out.drewN nq)
    have HOY : Hid (OX X w Y) := hid (by rw [hY]; exact HOZ.out.drewN nq)
    clear hY
    go_wp2
    go_ret
    refine ⟨by rw [HX9.out]; rfl, ⟨j, HTY.out, ?_, ?_⟩, HOY.out⟩
    ·have := HK0.out
     rw [HE.out, List.length_drop, HN.out]
     rw [HN.out] at this
     omega
    ·rw [HE.out, ← HR0.out, List.drop_drop, show k + (j - k) = j by omega]
  ·obtain rfl : n = j := by omega
   have hdk : decide ((n : Int) < (n : Int)) = false := decide_eq_false (by omega)
   have HE := hid (HNL.out n hkj hjn HB.out (fun h => by have := HN.out; omega))
   have hsl := HSL.out n hkj hjn
   go_wp2
   go_quiet (fail)
   obtain ⟨x, hx⟩ : ∃ x, (s.drop k).take (n - k) = x := ⟨_, rfl⟩
   rw [hx] at hsl
   have HX9 : Hid (r.take (nameW r) = x) := hid (by rw [HE.out, ← HR0.out, hx])
   obtain ⟨Z, hZ⟩ : ∃ Z, Z = wr.drewN nq := ⟨_, rfl⟩
   rw [← hZ]
   have hTZ : TS X s n Z := by rw [hZ]; exact HT.out.drewN nq
   have HOZ : Hid (OX X w Z) := hid (by rw [hZ]; exact HO.out.drewN nq)
   have z0 := hTZ.c0
   have z1 := hTZ.c1
   have HTZ := hid hTZ
   have i1' : (0 : Int) ≤ (k : Int) := by omega
   have i2' : (k : Int) ≤ (n : Int) := by omega
   have i3' : (n : Int) ≤ (n : Int) := by omega
   clear hTZ hZ c0 c1 hx
   go_wp2
   go_quiet (fail)
   obtain ⟨Y, hY⟩ : ∃ Y, Y = Z.drewN nq := ⟨_, rfl⟩
   rw [← hY]
   have HTY : Hid (TS X s n Y) := hid (by rw [hY]; exact HTZ.out.drewN nq)
   have HOY : Hid (OX X w Y) := hid (by rw [hY]; exact HOZ.out.drewN nq)
   clear hY
   go_wp2
   go_ret
   refine ⟨by rw [HX9.out]; rfl, ⟨n, HTY.out, ?_, ?_⟩, HOY.out⟩
   ·have := HK0.out
    rw [HE.out, List.length_drop, HN.out]
    rw [HN.out] at this
    omega
   ·rw [HE.out, ← HR0.out, List.drop_drop, show k + (n - k) = n by omega]
abbrev TMk : TypeId := 84
abbrev ZMk : Obj := .cells #[.string ⟨#[]⟩, .string ⟨#[]⟩, .string ⟨#[]⟩, .bool false] TMk (0, 0)
def MkA (nm : XN) (v : Bt) : Array Value := #[sV nm.1, sV nm.2, sV v, .bool (!(nm.1 == []))]
def MkO (X : Nat) (s : Bt) (o : Option (XN × Bt)) (w : World) (e : Ending) (w' : World) : Prop := OX X w w' ∧ match o with
 | none => ∃ a b c d q, e = .returned (.tuple #[.agg #[sV a, sV b, sV c, .bool d], .bool false]) ∧ TL X s q w'
 | some (nm, r') => e = .returned (.tuple #[.agg (MkA nm []), .bool true]) ∧ TL X s r' w'
theorem MkO.no {X : Nat} {s : Bt} {o : Option (XN × Bt)} {w w' : World} {a b c q : Bt} {d : Bool} (h : o = none) (ho : OX X w w') (ht : TL X s q w') : MkO X s o w (.returned (.tuple #[.agg #[sV a, sV b, sV c, .bool d], .bool false])) w' := by
 subst h
 exact ⟨ho, a, b, c, d, q, rfl, ht⟩
theorem mk_set {b : Nat} {w : World} {x0 x1 x2 x3 y0 y1 y2 y3 : Value} (h : Blk b (.cells #[x0, x1, x2, x3] TMk (0, 0)) w) : Blk b (.cells #[y0, y1, y2, y3] TMk (0, 0)) ((((w.setCell ⟨b, 0, none⟩ y0).setCell ⟨b, 1, none⟩ y1).setCell ⟨b, 2, none⟩ y2).setCell ⟨b, 3, none⟩ y3) ∧ OX b w ((((w.setCell ⟨b, 0, none⟩ y0).setCell ⟨b, 1, none⟩ y1).setCell ⟨b, 2, none⟩ y2).setCell ⟨b, 3, none⟩ y3) :=
 ⟨by simpa using (((h.set 0 y0).set 1 y1).set 2 y2).set 3 y3, OX.trans (OX.trans (OX.trans (off_set8 _ _ _ _) (off_set8 _ _ _ _)) (off_set8 _ _ _ _)) (off_set8 _ _ _ _)⟩
theorem OX.new {X R : Nat} {w w' w2 : World} (h : OX X w w') (h2 : OX R w' w2) (hR : w.heap.size ≤ R) : OX X w w2 := Off.trans h h2 (fun b hb => .inr (by rw [hb]; exact hR))
theorem bs_ne9 {t : Bt} (h : t ≠ []) : ¬ (bs t).toList = [] ∧ (bs t).toList.isEmpty = false ∧ ((bs t).toList == []) = false := by
 rw [bs_toList]
 refine ⟨h, ?_, beq_false_of_ne h⟩
 cases t with | nil => exact absurd rfl h | cons => rfl
theorem name_nil {r : Bt} : r.take (nameW r) = [] ↔ nameW r = 0 := by
 constructor
 ·intro h
  have h2 := congrArg List.length h
  rw [List.length_take] at h2
  have := nameW_le r
  simp only [List.length_nil] at h2
  omega
 ·intro h
  rw [h, List.take_zero]
set_option maxRecDepth 100000 in
set_option maxHeartbeats 1000000 in
theorem tmark8 {X : Nat} {s r : Bt} {w : World} (h : TL X s r w) (hs : s.length ≤ 1000000000) (o : Option (XN × Bt)) (ho : markL r = o) :
    Calls Tryz.prog 56 #[.pointer (some ⟨X, 0, none⟩)] w (MkO X s o w) := by
 have hXl := h.lt
 have HNC := hid (fun W q (hW : TL X s q W) => tname8 hW hs)
 have HWC : Hid (WdC X s [58] ⟨#[58]⟩) := hid (wdC X hs [58] (by decide) (by decide))
 unfold WdC at HWC
 have hB := below_alloc8 w ZMk
 obtain ⟨R, hR⟩ : ∃ R, w.heap.size = R := ⟨_, rfl⟩
 have hRb := Blk.new ZMk w
 rw [hR] at hRb
 have HT0 := hid (h.below hB)
 have HO0 : Hid (OX X w (w.alloc ZMk)) := hid (OX.of hB)
 have HR0 := hid hRb
 have hXR : X < R := by omega
 clear h hB hRb
 go_enter Tryz.func56, Tryz.ntmps56
 go_wp2_with fail
 refine (HNC.out _ _ HT0.out).mono ?_
 rintro e w1 ⟨rfl, h1, o1⟩
 have HR1 := hid (o1.blk HR0.out (fun e => by omega))
 have HO1 := hid (OX.trans HO0.out o1)
 have hs1 := o1.size
 have hs0 : (w.alloc ZMk).heap.size = R + 1 := by simp [hR]
 obtain ⟨M, hM⟩ : ∃ M, w1.heap.size = M := ⟨_, rfl⟩
 have hRM : R < M := by omega
 have hRw : w.heap.size ≤ R := by omega
 have hMw : w.heap.size ≤ M := by omega
 have HQ0 : Hid (nameW r = 0 → o = none) := hid (fun h => by rw [← ho]; unfold markL; rw [if_pos h])
 have HQ1 : Hid (nameW r ≠ 0 → wordL [58] (r.drop (nameW r)) = none → o = some (([], r.take (nameW r)), r.drop (nameW r))) := hid (fun h h2 => by rw [← ho]; unfold markL; rw [if_neg h, h2])
 have HQ2 : Hid (nameW r ≠ 0 → ∀ r2, wordL [58] (r.drop (nameW r)) = some r2 → o = if nameW r2 = 0 then none else some ((r.take (nameW r), r2.take (nameW r2)), r2.drop (nameW r2))) := hid (fun h r2 h2 => by rw [← ho]; unfold markL; rw [if_neg h, h2])
 have hnz : r.take (nameW r) = [] ↔ nameW r = 0 := name_nil
 obtain ⟨nm, hnm⟩ : ∃ x, r.take (nameW r) = x := ⟨_, rfl⟩
 obtain ⟨r1, hr1⟩ : ∃ x, r.drop (nameW r) = x := ⟨_, rfl⟩
 rw [hnm] at HQ1 HQ2 hnz ⊢
 rw [hr1] at HQ1 HQ2 h1
 have hB2 := below_alloc8 w1 (.cells #[.string ⟨#[]⟩, sV nm, .string ⟨#[]⟩, .bool false] TMk (0, 0))
 have hMb := Blk.new (.cells #[.string ⟨#[]⟩, sV nm, .string ⟨#[]⟩, .bool false] TMk (0, 0)) w1
 rw [hM] at hMb
 have HM2 := hid hMb
 have HR2 := hid ((Off.of_below hB2).blk HR1.out (fun h => h))
 have HO2 := hid (OX.trans HO1.out (OX.of hB2))
 have HT2 := hid (h1.below hB2)
 have hXM : X < M := by omega
 clear h1 o1 HR0 HR1 HO0 HO1 HT0 hs1 hs0 hnm hr1 ho hMb hB2
 by_cases hn0 : nm = []
 ·have hs0 : (bs nm).toList = [] := by rw [bs_toList]; exact hn0
  have HF := hid (HQ0.out (hnz.1 hn0))
  clear hn0 hnz HQ0 HQ1 HQ2
  have p1 := HM2.out.cell 1
  go_wp2
  obtain ⟨w2, hw2⟩ : ∃ W, w1.alloc (.cells #[.string ⟨#[]⟩, sV nm, .string ⟨#[]⟩, .bool false] TMk) = W := ⟨_, rfl⟩
  rw [hw2] at HM2 HR2 HO2 HT2 p1
  try rw [hw2]
  clear p1
  have bd : Below w2.heap.size w2 w2.drew := below_drewN (Below.refl _ _) 1
  have hMz := (Off.of_below bd).blk HM2.out (fun h => h)
  have hRz := (Off.of_below bd).blk HR2.out (fun h => h)
  have hOz := OX.trans HO2.out (OX.of bd)
  have hTz := HT2.out.below bd
  refine wp_region_held_drew (S := fun W => W.cell? ⟨M, 0, none⟩ = some (.string ⟨#[]⟩) ∧ W.cell? ⟨M, 1, none⟩ = some (sV nm) ∧ W.cell? ⟨M, 2, none⟩ = some (.string ⟨#[]⟩) ∧ W.cell? ⟨M, 3, none⟩ = some (.bool false)) (by kernel_rfl) ⟨hMz.cell 0, hMz.cell 1, hMz.cell 2, hMz.cell 3⟩ (fun _ => ?_)
  generalize w2.drew = w0 at *
  have HH : ∀ W, Blk M (.cells #[.string ⟨#[]⟩, sV nm, .string ⟨#[]⟩, .bool false] TMk (0, 0)) W → (fun W => W.cell? ⟨M, 0, none⟩ = some (.string ⟨#[]⟩) ∧ W.cell? ⟨M, 1, none⟩ = some (sV nm) ∧ W.cell? ⟨M, 2, none⟩ = some (.string ⟨#[]⟩) ∧ W.cell? ⟨M, 3, none⟩ = some (.bool false)) W := fun W h => ⟨h.cell 0, h.cell 1, h.cell 2, h.cell 3⟩
  have HHH := hid HH
  clear HH
  refine wpAnyH_take (i := 0) (v := .agg #[.string ⟨#[]⟩, sV nm, .string ⟨#[]⟩, .bool false]) rfl (by kernel_rfl) (by kernel_rfl) (by kernel_rfl) (fun _ _ _ h => h) (Or.inl ⟨by rfl, by intro w hSw; (try dsimp only at hSw); go_simp⟩) (HHH.out _ hMz) ?_
  change wpAnyH _ _ _ _ _ _ _ (Act.put _ (some 22) _) _
  try simp only [Act.put, zA8, zB8, zC8]
  refine wpAnyH_take (i := 1) (v := .pointer (some ⟨M, 1, none⟩)) rfl (by kernel_rfl) (by kernel_rfl) (by kernel_rfl) (fun _ _ _ h => h) (Or.inl ⟨by rfl, by intro w hSw; clear hSw; go_simp⟩) (HHH.out _ hMz) ?_
  change wpAnyH _ _ _ _ _ _ _ (Act.put _ (some 23) _) _
  try simp only [Act.put, zA8, zB8, zC8]
  refine wpAnyH_take (i := 2) (v := sV nm) rfl (by kernel_rfl) (by kernel_rfl) (by kernel_rfl) (fun _ _ _ h => h) (Or.inl ⟨by rfl, by intro w hSw; (try dsimp only at hSw); go_simp⟩) (HHH.out _ hMz) ?_
  change wpAnyH _ _ _ _ _ _ _ (Act.put _ (some 24) _) _
  try simp only [Act.put, zA8, zB8, zC8]
  refine wpAnyH_take (i := 3) (v := .bool false) rfl (by kernel_rfl) (by kernel_rfl) (by kernel_rfl) (fun _ _ _ h => h) (Or.inl ⟨by rfl, by intro w hSw; clear hSw; go_simp⟩) (HHH.out _ hMz) ?_
  change wpAnyH _ _ _ _ _ _ _ (Act.put _ (some 25) _) _
  try simp only [Act.put, zA8, zB8, zC8]
  have d0 := hRz.cell 0
  have d1 := hRz.cell 1
  have d2 := hRz.cell 2
  have d3 := hRz.cell 3
  have f0 := hRz.free 0
  have f1 := hRz.free 1
  have f2 := hRz.free 2
  have f3 := hRz.free 3
  obtain ⟨hE, hoE⟩ := mk_set (y0 := .string ⟨#[]⟩) (y1 := sV nm) (y2 := .string ⟨#[]⟩) (y3 := .bool false) hRz
  have hMe := hoE.blk hMz (fun e => by omega)
  refine wpAnyH_ready (rs := [4]) (by kernel_rfl) (by simp) ?_
  refine AllReadyH.cons (o := { dst := none, op := .store TMk (.tmp 2) (.tmp 22), type := _, pos := _, after := _, guard := none }) rfl (fun K hK => ?_) AllReadyH.nil
  go_simp
  refine hK.out _ _ (HHH.out _ hMe) (fun _ => ?_)
  clear hK K d0 d1 d2 d3 f0 f1 f2 f3
  try simp only [Act.put, zA8, zB8, zC8]
  refine wpAnyH_take (i := 5) (v := .bool false) rfl (by kernel_rfl) (by kernel_rfl) (by kernel_rfl) (fun _ _ _ h => h) (Or.inl ⟨by rfl, by intro w hSw; clear hSw; go_simp⟩) (HHH.out _ hMe) ?_
  change wpAnyH _ _ _ _ _ _ _ (Act.put _ (some 3) _) _
  try simp only [Act.put, zA8, zB8, zC8]
  refine wpAnyH_done (by kernel_rfl) ?_ _
  have e0 := hE.cell 0
  have e1 := hE.cell 1
  have e2 := hE.cell 2
  have e3 := hE.cell 3
  go_wp2
  refine bodyPost_ret (v := .tuple #[.agg #[.string ⟨#[]⟩, sV nm, .string ⟨#[]⟩, .bool false], .bool false]) ?_ rfl ?_
  ·simp [results, Tryz.results56, go_sem, e0, e1, e2, e3]
  exact MkO.no (a := []) (b := nm) (c := []) (d := false) HF.out (OX.new hOz hoE hRw) (hTz.off hoE (fun e => by omega))
 ·obtain ⟨hs0, hs1, hs2⟩ := bs_ne9 hn0
  have HNE := hid hn0
  have hnw : nameW r ≠ 0 := fun h => hn0 (hnz.2 h)
  have HQ1 := hid (HQ1.out hnw)
  have HQ2 := hid (HQ2.out hnw)
  clear hn0 hnz HQ0 hnw
  cases hw : wordL [58] r1 with
  | none =>
   have HF := hid (HQ1.out hw)
   have HC := hid (HWC.out _ _ _ HT2.out hw)
   clear HQ1 HQ2 hw
   have p1 := HM2.out.cell 1
   go_wp2_with fail
   refine HC.out.mono ?_
   rintro e w3 ⟨rfl, h3, o3⟩
   have HT3 : Hid (TL X s r1 w3) := hid h3
   have HM3 := hid (o3.blk HM2.out (fun e => by omega))
   have HR3 := hid (o3.blk HR2.out (fun e => by omega))
   have HO3 := hid (OX.trans HO2.out o3)
   clear h3 o3 HM2 HR2 HO2 HT2 p1
   go_wp2
   have bd : Below w3.heap.size w3 w3.drew := below_drewN (Below.refl _ _) 1
   have hMz := (Off.of_below bd).blk HM3.out (fun h => h)
   have hRz := (Off.of_below bd).blk HR3.out (fun h => h)
   have hOz := OX.trans HO3.out (OX.of bd)
   have hTz := HT3.out.below bd
   refine wp_region_held_drew (S := fun W => W.cell? ⟨M, 0, none⟩ = some (.string ⟨#[]⟩) ∧ W.cell? ⟨M, 1, none⟩ = some (sV nm) ∧ W.cell? ⟨M, 2, none⟩ = some (.string ⟨#[]⟩) ∧ W.cell? ⟨M, 3, none⟩ = some (.bool false)) (by kernel_rfl) ⟨hMz.cell 0, hMz.cell 1, hMz.cell 2, hMz.cell 3⟩ (fun _ => ?_)
   generalize w3.drew = w0 at *
   have HH : ∀ W, Blk M (.cells #[.string ⟨#[]⟩, sV nm, .string ⟨#[]⟩, .bool false] TMk (0, 0)) W → (fun W => W.cell? ⟨M, 0, none⟩ = some (.string ⟨#[]⟩) ∧ W.cell? ⟨M, 1, none⟩ = some (sV nm) ∧ W.cell? ⟨M, 2, none⟩ = some (.string ⟨#[]⟩) ∧ W.cell? ⟨M, 3, none⟩ = some (.bool false)) W := fun W h => ⟨h.cell 0, h.cell 1, h.cell 2, h.cell 3⟩
   have HHH := hid HH
   clear HH
   refine wpAnyH_take (i := 0) (v := .agg #[.string ⟨#[]⟩, sV nm, .string ⟨#[]⟩, .bool false]) rfl (by kernel_rfl) (by kernel_rfl) (by kernel_rfl) (fun _ _ _ h => h) (Or.inl ⟨by rfl, by intro w hSw; (try dsimp only at hSw); go_simp⟩) (HHH.out _ hMz) ?_
   change wpAnyH _ _ _ _ _ _ _ (Act.put _ (some 22) _) _
   try simp only [Act.put, zA8, zB8, zC8]
   refine wpAnyH_take (i := 1) (v := .pointer (some ⟨M, 1, none⟩)) rfl (by kernel_rfl) (by kernel_rfl) (by kernel_rfl) (fun _ _ _ h => h) (Or.inl ⟨by rfl, by intro w hSw; clear hSw; go_simp⟩) (HHH.out _ hMz) ?_
   change wpAnyH _ _ _ _ _ _ _ (Act.put _ (some 23) _) _
   try simp only [Act.put, zA8, zB8, zC8]
   refine wpAnyH_take (i := 2) (v := sV nm) rfl (by kernel_rfl) (by kernel_rfl) (by kernel_rfl) (fun _ _ _ h => h) (Or.inl ⟨by rfl, by intro w hSw; (try dsimp only at hSw); go_simp⟩) (HHH.out _ hMz) ?_
   change wpAnyH _ _ _ _ _ _ _ (Act.put _ (some 24) _) _
   try simp only [Act.put, zA8, zB8, zC8]
   refine wpAnyH_take (i := 3) (v := .bool true) rfl (by kernel_rfl) (by kernel_rfl) (by kernel_rfl) (fun _ _ _ h => h) (Or.inl ⟨by rfl, by intro w hSw; clear hSw; go_simp⟩) (HHH.out _ hMz) ?_
   change wpAnyH _ _ _ _ _ _ _ (Act.put _ (some 25) _) _
   try simp only [Act.put, zA8, zB8, zC8]
   have d0 := hRz.cell 0
   have d1 := hRz.cell 1
   have d2 := hRz.cell 2
   have d3 := hRz.cell 3
   have f0 := hRz.free 0
   have f1 := hRz.free 1
   have f2 := hRz.free 2
   have f3 := hRz.free 3
   obtain ⟨hE, hoE⟩ := mk_set (y0 := .string ⟨#[]⟩) (y1 := sV nm) (y2 := .string ⟨#[]⟩) (y3 := .bool false) hRz
   have hMe := hoE.blk hMz (fun e => by omega)
   refine wpAnyH_ready (rs := [4]) (by kernel_rfl) (by simp) ?_
   refine AllReadyH.cons (o := { dst := none, op := .store TMk (.tmp 2) (.tmp 22), type := _, pos := _, after := _, guard := none }) rfl (fun K hK => ?_) AllReadyH.nil
   go_simp
   refine hK.out _ _ (HHH.out _ hMe) (fun _ => ?_)
   clear hK K d0 d1 d2 d3 f0 f1 f2 f3
   try simp only [Act.put, zA8, zB8, zC8]
   refine wpAnyH_take (i := 5) (v := .bool true) rfl (by kernel_rfl) (by kernel_rfl) (by kernel_rfl) (fun _ _ _ h => h) (Or.inl ⟨by rfl, by intro w hSw; clear hSw; go_simp⟩) (HHH.out _ hMe) ?_
   change wpAnyH _ _ _ _ _ _ _ (Act.put _ (some 3) _) _
   try simp only [Act.put, zA8, zB8, zC8]
   refine wpAnyH_done (by kernel_rfl) ?_ _
   have e0 := hE.cell 0
   have e1 := hE.cell 1
   have e2 := hE.cell 2
   have e3 := hE.cell 3
   go_wp2
   refine bodyPost_ret (v := .tuple #[.agg #[.string ⟨#[]⟩, sV nm, .string ⟨#[]⟩, .bool false], .bool true]) ?_ rfl ?_
   ·simp [results, Tryz.results56, go_sem, e0, e1, e2, e3]
   rw [HF.out]
   exact ⟨OX.new hOz hoE hRw, rfl, hTz.off hoE (fun e => by omega)⟩
  | some r2 =>
   have HF := hid (HQ2.out r2 hw)
   have HC := hid (HWC.out _ _ _ HT2.out hw)
   clear HQ1 HQ2 hw
   have p1 := HM2.out.cell 1
   go_wp2_with fail
   refine HC.out.mono ?_
   rintro e w3 ⟨rfl, h3, o3⟩
   have hT3 : TL X s r2 w3 := h3
   have hM3 := o3.blk HM2.out (fun e => by omega)
   have hR3 := o3.blk HR2.out (fun e => by omega)
   have hO3 := OX.trans HO2.out o3
   clear p1
   have p0 := hM3.cell 0
   have p1 := hM3.cell 1
   have p3 := hM3.cell 3
   have f0 := hM3.free 0
   have f3 := hM3.free 3
   have hoff : OX M w3 ((w3.setCell ⟨M, 0, none⟩ (sV nm)).setCell ⟨M, 3, none⟩ (.bool true)) := OX.trans (off_set8 _ _ _ _) (off_set8 _ _ _ _)
   have HM4 : Hid (Blk M (.cells #[sV nm, sV nm, .string ⟨#[]⟩, .bool true] TMk (0, 0)) ((w3.setCell ⟨M, 0, none⟩ (sV nm)).setCell ⟨M, 3, none⟩ (.bool true))) := hid (by simpa using (hM3.set 0 (sV nm)).set 3 (.bool true))
   have HR4 := hid (hoff.blk hR3 (fun e => by omega))
   have HO4 := hid (OX.new hO3 hoff hMw)
   have HT4 := hid (hT3.off hoff (fun e => by omega))
   clear h3 o3 HM2 HR2 HO2 HT2 hT3 hM3 hR3 hO3 hoff HC
   go_wp2_with fail
   refine (HNC.out _ _ HT4.out).mono ?_
   rintro e w5 ⟨rfl, h5, o5⟩
   have hM5 := o5.blk HM4.out (fun e => by omega)
   have hR5 := o5.blk HR4.out (fun e => by omega)
   have hO5 := OX.trans HO4.out o5
   have hnz : r2.take (nameW r2) = [] ↔ nameW r2 = 0 := name_nil
   obtain ⟨nm2, hnm2⟩ : ∃ x, r2.take (nameW r2) = x := ⟨_, rfl⟩
   obtain ⟨r3, hr3⟩ : ∃ x, r2.drop (nameW r2) = x := ⟨_, rfl⟩
   rw [hnm2] at HF hnz ⊢
   rw [hr3] at HF h5
   clear p0 p1 p3 f0 f3
   have p1 := hM5.cell 1
   have f1 := hM5.free 1
   have hoff : OX M w5 (w5.setCell ⟨M, 1, none⟩ (sV nm2)) := off_set8 _ _ _ _
   have HM6 : Hid (Blk M (.cells #[sV nm, sV nm2, .string ⟨#[]⟩, .bool true] TMk (0, 0)) (w5.setCell ⟨M, 1, none⟩ (sV nm2))) := hid (by simpa using hM5.set 1 (sV nm2))
   have HR6 := hid (hoff.blk hR5 (fun e => by omega))
   have HO6 := hid (OX.new hO5 hoff hMw)
   have HT6 := hid (h5.off hoff (fun e => by omega))
   clear h5 o5 HM4 HR4 HO4 HT4 hM5 hR5 hO5 hoff hnm2 hr3
   by_cases hn2 : nm2 = []
   ·have hs3 : (bs nm2).toList = [] := by rw [bs_toList]; exact hn2
    have HF : Hid (o = none) := hid (by rw [HF.out, if_pos (hnz.1 hn2)])
    clear hn2 hnz
    go_wp2
    obtain ⟨w6, hw6⟩ : ∃ W, W = w5.setCell ⟨M, 1, none⟩ (sV nm2) := ⟨_, rfl⟩
    rw [← hw6] at HM6 HR6 HO6 HT6 ⊢
    clear hw6 p1 f1
    have bd : Below w6.heap.size w6 w6.drew := below_drewN (Below.refl _ _) 1
    have hMz := (Off.of_below bd).blk HM6.out (fun h => h)
    have hRz := (Off.of_below bd).blk HR6.out (fun h => h)
    have hOz := OX.trans HO6.out (OX.of bd)
    have hTz := HT6.out.below bd
    refine wp_region_held_drew (S := fun W => W.cell? ⟨M, 0, none⟩ = some (sV nm) ∧ W.cell? ⟨M, 1, none⟩ = some (sV nm2) ∧ W.cell? ⟨M, 2, none⟩ = some (.string ⟨#[]⟩) ∧ W.cell? ⟨M, 3, none⟩ = some (.bool true)) (by kernel_rfl) ⟨hMz.cell 0, hMz.cell 1, hMz.cell 2, hMz.cell 3⟩ (fun _ => ?_)
    generalize w6.drew = w0 at *
    have HH : ∀ W, Blk M (.cells #[sV nm, sV nm2, .string ⟨#[]⟩, .bool true] TMk (0, 0)) W → (fun W => W.cell? ⟨M, 0, none⟩ = some (sV nm) ∧ W.cell? ⟨M, 1, none⟩ = some (sV nm2) ∧ W.cell? ⟨M, 2, none⟩ = some (.string ⟨#[]⟩) ∧ W.cell? ⟨M, 3, none⟩ = some (.bool true)) W := fun W h => ⟨h.cell 0, h.cell 1, h.cell 2, h.cell 3⟩
    have HHH := hid HH
    clear HH
    refine wpAnyH_take (i := 0) (v := .agg #[sV nm, sV nm2, .string ⟨#[]⟩, .bool true]) rfl (by kernel_rfl) (by kernel_rfl) (by kernel_rfl) (fun _ _ _ h => h) (Or.inl ⟨by rfl, by intro w hSw; (try dsimp only at hSw); go_simp⟩) (HHH.out _ hMz) ?_
    change wpAnyH _ _ _ _ _ _ _ (Act.put _ (some 22) _) _
    try simp only [Act.put, zA8, zB8, zC8]
    refine wpAnyH_take (i := 1) (v := .pointer (some ⟨M, 1, none⟩)) rfl (by kernel_rfl) (by kernel_rfl) (by kernel_rfl) (fun _ _ _ h => h) (Or.inl ⟨by rfl, by intro w hSw; clear hSw; go_simp⟩) (HHH.out _ hMz) ?_
    change wpAnyH _ _ _ _ _ _ _ (Act.put _ (some 23) _) _
    try simp only [Act.put, zA8, zB8, zC8]
    refine wpAnyH_take (i := 2) (v := sV nm2) rfl (by kernel_rfl) (by kernel_rfl) (by kernel_rfl) (fun _ _ _ h => h) (Or.inl ⟨by rfl, by intro w hSw; (try dsimp only at hSw); go_simp⟩) (HHH.out _ hMz) ?_
    change wpAnyH _ _ _ _ _ _ _ (Act.put _ (some 24) _) _
    try simp only [Act.put, zA8, zB8, zC8]
    refine wpAnyH_take (i := 3) (v := .bool false) rfl (by kernel_rfl) (by kernel_rfl) (by kernel_rfl) (fun _ _ _ h => h) (Or.inl ⟨by rfl, by intro w hSw; clear hSw; go_simp⟩) (HHH.out _ hMz) ?_
    change wpAnyH _ _ _ _ _ _ _ (Act.put _ (some 25) _) _
    try simp only [Act.put, zA8, zB8, zC8]
    have d0 := hRz.cell 0
    have d1 := hRz.cell 1
    have d2 := hRz.cell 2
    have d3 := hRz.cell 3
    have f0 := hRz.free 0
    have f1 := hRz.free 1
    have f2 := hRz.free 2
    have f3 := hRz.free 3
    obtain ⟨hE, hoE⟩ := mk_set (y0 := sV nm) (y1 := sV nm2) (y2 := .string ⟨#[]⟩) (y3 := .bool true) hRz
    have hMe := hoE.blk hMz (fun e => by omega)
    refine wpAnyH_ready (rs := [4]) (by kernel_rfl) (by simp) ?_
    refine AllReadyH.cons (o := { dst := none, op := .store TMk (.tmp 2) (.tmp 22), type := _, pos := _, after := _, guard := none }) rfl (fun K hK => ?_) AllReadyH.nil
    go_simp
    refine hK.out _ _ (HHH.out _ hMe) (fun _ => ?_)
    clear hK K d0 d1 d2 d3 f0 f1 f2 f3
    try simp only [Act.put, zA8, zB8, zC8]
    refine wpAnyH_take (i := 5) (v := .bool false) rfl (by kernel_rfl) (by kernel_rfl) (by kernel_rfl) (fun _ _ _ h => h) (Or.inl ⟨by rfl, by intro w hSw; clear hSw; go_simp⟩) (HHH.out _ hMe) ?_
    change wpAnyH _ _ _ _ _ _ _ (Act.put _ (some 3) _) _
    try simp only [Act.put, zA8, zB8, zC8]
    refine wpAnyH_done (by kernel_rfl) ?_ _
    have e0 := hE.cell 0
    have e1 := hE.cell 1
    have e2 := hE.cell 2
    have e3 := hE.cell 3
    go_wp2
    refine bodyPost_ret (v := .tuple #[.agg #[sV nm, sV nm2, .string ⟨#[]⟩, .bool true], .bool false]) ?_ rfl ?_
    ·simp [results, Tryz.results56, go_sem, e0, e1, e2, e3]
    exact MkO.no (a := nm) (b := nm2) (c := []) (d := true) HF.out (OX.new hOz hoE hRw) (hTz.off hoE (fun e => by omega))
   ·obtain ⟨hs3, hs4, hs5⟩ := bs_ne9 hn2
    have HF : Hid (o = some ((nm, nm2), r3)) := hid (by rw [HF.out, if_neg (fun h => hn2 (hnz.2 h))])
    clear hn2 hnz
    go_wp2
    obtain ⟨w6, hw6⟩ : ∃ W, W = w5.setCell ⟨M, 1, none⟩ (sV nm2) := ⟨_, rfl⟩
    rw [← hw6] at HM6 HR6 HO6 HT6 ⊢
    clear hw6 p1 f1
    have bd : Below w6.heap.size w6 w6.drew := below_drewN (Below.refl _ _) 1
    have hMz := (Off.of_below bd).blk HM6.out (fun h => h)
    have hRz := (Off.of_below bd).blk HR6.out (fun h => h)
    have hOz := OX.trans HO6.out (OX.of bd)
    have hTz := HT6.out.below bd
    refine wp_region_held_drew (S := fun W => W.cell? ⟨M, 0, none⟩ = some (sV nm) ∧ W.cell? ⟨M, 1, none⟩ = some (sV nm2) ∧ W.cell? ⟨M, 2, none⟩ = some (.string ⟨#[]⟩) ∧ W.cell? ⟨M, 3, none⟩ = some (.bool true)) (by kernel_rfl) ⟨hMz.cell 0, hMz.cell 1, hMz.cell 2, hMz.cell 3⟩ (fun _ => ?_)
    generalize w6.drew = w0 at *
    have HH : ∀ W, Blk M (.cells #[sV nm, sV nm2, .string ⟨#[]⟩, .bool true] TMk (0, 0)) W → (fun W => W.cell? ⟨M, 0, none⟩ = some (sV nm) ∧ W.cell? ⟨M, 1, none⟩ = some (sV nm2) ∧ W.cell? ⟨M, 2, none⟩ = some (.string ⟨#[]⟩) ∧ W.cell? ⟨M, 3, none⟩ = some (.bool true)) W := fun W h => ⟨h.cell 0, h.cell 1, h.cell 2, h.cell 3⟩
    have HHH := hid HH
    clear HH
    refine wpAnyH_take (i := 0) (v := .agg #[sV nm, sV nm2, .string ⟨#[]⟩, .bool true]) rfl (by kernel_rfl) (by kernel_rfl) (by kernel_rfl) (fun _ _ _ h => h) (Or.inl ⟨by rfl, by intro w hSw; (try dsimp only at hSw); go_simp⟩) (HHH.out _ hMz) ?_
    change wpAnyH _ _ _ _ _ _ _ (Act.put _ (some 22) _) _
    try simp only [Act.put, zA8, zB8, zC8]
    refine wpAnyH_take (i := 1) (v := .pointer (some ⟨M, 1, none⟩)) rfl (by kernel_rfl) (by kernel_rfl) (by kernel_rfl) (fun _ _ _ h => h) (Or.inl ⟨by rfl, by intro w hSw; clear hSw; go_simp⟩) (HHH.out _ hMz) ?_
    change wpAnyH _ _ _ _ _ _ _ (Act.put _ (some 23) _) _
    try simp only [Act.put, zA8, zB8, zC8]
    refine wpAnyH_take (i := 2) (v := sV nm2) rfl (by kernel_rfl) (by kernel_rfl) (by kernel_rfl) (fun _ _ _ h => h) (Or.inl ⟨by rfl, by intro w hSw; (try dsimp only at hSw); go_simp⟩) (HHH.out _ hMz) ?_
    change wpAnyH _ _ _ _ _ _ _ (Act.put _ (some 24) _) _
    try simp only [Act.put, zA8, zB8, zC8]
    refine wpAnyH_take (i := 3) (v := .bool true) rfl (by kernel_rfl) (by kernel_rfl) (by kernel_rfl) (fun _ _ _ h => h) (Or.inl ⟨by rfl, by intro w hSw; clear hSw; go_simp⟩) (HHH.out _ hMz) ?_
    change wpAnyH _ _ _ _ _ _ _ (Act.put _ (some 25) _) _
    try simp only [Act.put, zA8, zB8, zC8]
    have d0 := hRz.cell 0
    have d1 := hRz.cell 1
    have d2 := hRz.cell 2
    have d3 := hRz.cell 3
    have f0 := hRz.free 0
    have f1 := hRz.free 1
    have f2 := hRz.free 2
    have f3 := hRz.free 3
    obtain ⟨hE, hoE⟩ := mk_set (y0 := sV nm) (y1 := sV nm2) (y2 := .string ⟨#[]⟩) (y3 := .bool true) hRz
    have hMe := hoE.blk hMz (fun e => by omega)
    refine wpAnyH_ready (rs := [4]) (by kernel_rfl) (by simp) ?_
    refine AllReadyH.cons (o := { dst := none, op := .store TMk (.tmp 2) (.tmp 22), type := _, pos := _, after := _, guard := none }) rfl (fun K hK => ?_) AllReadyH.nil
    go_simp
    refine hK.out _ _ (HHH.out _ hMe) (fun _ => ?_)
    clear hK K d0 d1 d2 d3 f0 f1 f2 f3
    try simp only [Act.put, zA8, zB8, zC8]
    refine wpAnyH_take (i := 5) (v := .bool true) rfl (by kernel_rfl) (by kernel_rfl) (by kernel_rfl) (fun _ _ _ h => h) (Or.inl ⟨by rfl, by intro w hSw; clear hSw; go_simp⟩) (HHH.out _ hMe) ?_
    change wpAnyH _ _ _ _ _ _ _ (Act.put _ (some 3) _) _
    try simp only [Act.put, zA8, zB8, zC8]
    refine wpAnyH_done (by kernel_rfl) ?_ _
    have e0 := hE.cell 0
    have e1 := hE.cell 1
    have e2 := hE.cell 2
    have e3 := hE.cell 3
    go_wp2
    refine bodyPost_ret (v := .tuple #[.agg #[sV nm, sV nm2, .string ⟨#[]⟩, .bool true], .bool true]) ?_ rfl ?_
    ·simp [results, Tryz.results56, go_sem, e0, e1, e2, e3]
    rw [HF.out]
    exact ⟨OX.new hOz hoE hRw, by rw [MkA, show (!(nm == [])) = true by rw [beq_false_of_ne HNE.out]; rfl]; rfl, hTz.off hoE (fun e => by omega)⟩
end Go.Proofs.YtklcjimmbkpbdaaGreatDoor
