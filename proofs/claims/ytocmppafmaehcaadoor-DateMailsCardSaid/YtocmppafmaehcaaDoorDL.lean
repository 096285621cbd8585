/-
  The walks of the reader's mailMoment, and of package date's Atom and Mail. Conditions: none.
-/
import Derived.Test.YtocmppafmaehcaaDoorDK00
import Derived.Test.YtocmppafmaehcaaDoorDK01
import Derived.Test.YtocmppafmaehcaaDoorDK10
import Derived.Test.YtocmppafmaehcaaDoorDK11
import Derived.Test.YtocmppafmaehcaaDoorDateU
namespace Go.Proofs.YtocmppafmaehcaaDoor
open Go.RowKit
open Go.Lib

theorem mailMoment_any (b : Nat) (s0 : ByteArray) (bad : Bool) (w : World) (hr : Rd b s0 bad w) :
    Calls Tryd.prog 31 #[.pointer (some ⟨b, 0, none⟩)] w (MomStep b bad (mailF s0.data.toList) w) := by
  obtain ⟨l0, hl0⟩ : ∃ l, s0.data.toList = l := ⟨_, rfl⟩
  rw [hl0]
  obtain ⟨⟨l1, o1⟩, f1⟩ : ∃ f, headF l0 = f := ⟨_, rfl⟩
  obtain ⟨⟨⟨d, z2⟩, l2, o2⟩, f2⟩ : ∃ f, digF 1 2 l1 = f := ⟨_, rfl⟩
  obtain ⟨⟨z3, l3, o3⟩, f3⟩ : ∃ f, oneF [[32]] l2 = f := ⟨_, rfl⟩
  obtain ⟨⟨i, l4, o4⟩, f4⟩ : ∃ f, oneF monthsN l3 = f := ⟨_, rfl⟩
  obtain ⟨⟨z5, l5, o5⟩, f5⟩ : ∃ f, oneF [[32]] l4 = f := ⟨_, rfl⟩
  obtain ⟨⟨y, l6, o6⟩, f6⟩ : ∃ f, yearF l5 = f := ⟨_, rfl⟩
  obtain ⟨⟨z7, l7, o7⟩, f7⟩ : ∃ f, oneF [[32]] l6 = f := ⟨_, rfl⟩
  obtain ⟨⟨hh, l8, o8⟩, f8⟩ : ∃ f, twoF 0 23 l7 = f := ⟨_, rfl⟩
  obtain ⟨⟨z9, l9, o9⟩, f9⟩ : ∃ f, oneF [[58]] l8 = f := ⟨_, rfl⟩
  obtain ⟨⟨mi, l10, o10⟩, f10⟩ : ∃ f, twoF 0 59 l9 = f := ⟨_, rfl⟩
  obtain ⟨⟨sc, l11, o11⟩, f11⟩ : ∃ f, secF l10 = f := ⟨_, rfl⟩
  obtain ⟨⟨z12, l12, o12⟩, f12⟩ : ∃ f, oneF [[32]] l11 = f := ⟨_, rfl⟩
  obtain ⟨⟨ah, l13, o13⟩, f13⟩ : ∃ f, mzF l12 = f := ⟨_, rfl⟩
  have HF : mailF l0 = (⟨y, i + 1, d, hh, mi, sc, ah⟩, l13, o1 && (o2 && (decide (1 ≤ d) && (o3 && (o4 && (o5 && (o6 && (o7 && (o8 && (o9 && (o10 && (o11 && (o12 && o13))))))))))))) := by
    unfold mailF
    simp only [f1, f2, f3, f4, f5, f6, f7, f8, f9, f10, f11, f12, f13]
  rw [HF]
  have b4 := oneF_bd monthsN l3
  rw [f4] at b4
  have i0 : -1 ≤ i := b4.1
  have i1 : i ≤ 12 := b4.2
  unfold headF at f1
  unfold secF at f11
  cases k0 : tkB weekN l0 with
  | true =>
    rw [if_pos k0] at f1
    obtain ⟨⟨z1, x1, x2⟩, f0⟩ : ∃ f, oneF [[44, 32]] (tkL weekN l0) = f := ⟨_, rfl⟩
    rw [f0] at f1
    cases f1
    cases kc : tkB [[58]] l10 with
    | true =>
      rw [if_pos kc] at f11
      exact mail11 b s0 bad w hr l0 (tkL weekN l0) x1 l2 l3 l4 l5 l6 l7 l8 l9 l10 (tkL [[58]] l10) l11 l12 l13 x2 o2 o3 o4 o5 o6 o7 o8 o9 o10 o11 o12 o13 z1 d z2 z3 i z5 y z7 hh z9 mi sc z12 ah hl0 k0 rfl f0 f2 f3 f4 i0 i1 f5 f6 f7 f8 f9 f10 kc rfl f11 f12 f13
    | false =>
      rw [if_neg (by simp [kc])] at f11
      cases f11
      exact mail10 b s0 bad w hr l0 (tkL weekN l0) x1 l2 l3 l4 l5 l6 l7 l8 l9 l10 l12 l13 x2 o2 o3 o4 o5 o6 o7 o8 o9 o10 o12 o13 z1 d z2 z3 i z5 y z7 hh z9 mi z12 ah hl0 k0 rfl f0 f2 f3 f4 i0 i1 f5 f6 f7 f8 f9 f10 kc ((tk_neg _ _).2 kc).2 f12 f13
  | false =>
    rw [if_neg (by simp [k0])] at f1
    cases f1
    cases kc : tkB [[58]] l10 with
    | true =>
      rw [if_pos kc] at f11
      exact mail01 b s0 bad w hr l0 l2 l3 l4 l5 l6 l7 l8 l9 l10 (tkL [[58]] l10) l11 l12 l13 o2 o3 o4 o5 o6 o7 o8 o9 o10 o11 o12 o13 d z2 z3 i z5 y z7 hh z9 mi sc z12 ah hl0 k0 ((tk_neg _ _).2 k0).2 f2 f3 f4 i0 i1 f5 f6 f7 f8 f9 f10 kc rfl f11 f12 f13
    | false =>
      rw [if_neg (by simp [kc])] at f11
      cases f11
      exact mail00 b s0 bad w hr l0 l2 l3 l4 l5 l6 l7 l8 l9 l10 l12 l13 o2 o3 o4 o5 o6 o7 o8 o9 o10 o12 o13 d z2 z3 i z5 y z7 hh z9 mi z12 ah hl0 k0 ((tk_neg _ _).2 k0).2 f2 f3 f4 i0 i1 f5 f6 f7 f8 f9 f10 kc ((tk_neg _ _).2 kc).2 f12 f13
set_option maxRecDepth 100000 in
set_option maxHeartbeats 1000000 in
theorem atom_any (s : ByteArray) (w : World) : Calls Tryd.prog 11 #[.string s] w (AnsOut (ansF (atomF s.data.toList)) w.heap.size w) := by
  have hb := atomF_bd s.data.toList
  have hm := fun W (r : Rd w.heap.size s false W) => atomMoment_any w.heap.size s false W r
  unfold MomStep at hm
  generalize atomF s.data.toList = f at *
  obtain ⟨⟨y, mo, d, hh, mi, sc, a⟩, l, o⟩ := f
  obtain ⟨q1, q2, q3, q4, q5, q6, q7⟩ := hb
  have r0 : Rd w.heap.size s false (w.alloc (.cells #[.string s, .bool false] 44)) := Blk.new _ w
  go_enter Tryd.func11, Tryd.ntmps11
  go_wp2_with fail
  refine (hm _ r0).mono ?_
  clear hm
  rintro e w1 ⟨s1, rfl, h1, r1, g1⟩
  have B1 : Below w.heap.size w w1 := ((Below.refl _ _).alloc (Nat.le_refl _) _).trans (below_of_grown g1 (by simp))
  have H1 := Lib.hid h1
  clear h1 g1
  unfold momV
  have ha := answer_any w.heap.size s1 (false || !o) y mo d hh mi sc a _ (r1.alloc (.cells #[.int .i64 y, .int .i64 mo, .int .i64 d, .int .i64 hh, .int .i64 mi, .int .i64 sc, .int .i64 a] 46)) q1 (fun h => q2 (by simpa using h)) q3 q4 q5 q6 q7
  rw [H1.out] at ha
  rw [show (!(false || !o)) = o by simp] at ha
  unfold momV AnsOut at ha
  unfold AnsOut
  generalize ansF (⟨y, mo, d, hh, mi, sc, a⟩, l, o) = r at *
  go_wp2_with fail
  refine ha.mono ?_
  clear ha
  rintro e w2 ⟨rfl, b2⟩
  have B2 := (B1.alloc (by have := B1.size; omega) _).trans b2
  cases r with
  | none =>
    unfold AnsV
    go_wp2
    go_ret2
    exact ⟨rfl, B2⟩
  | some v =>
    unfold AnsV
    go_wp2
    go_ret2
    exact ⟨rfl, B2⟩
set_option maxRecDepth 100000 in
set_option maxHeartbeats 1000000 in
theorem mail_any (s : ByteArray) (w : World) : Calls Tryd.prog 13 #[.string s] w (AnsOut (ansF (mailF s.data.toList)) w.heap.size w) := by
  have hb := mailF_bd s.data.toList
  have hm := fun W (r : Rd w.heap.size s false W) => mailMoment_any w.heap.size s false W r
  unfold MomStep at hm
  generalize mailF s.data.toList = f at *
  obtain ⟨⟨y, mo, d, hh, mi, sc, a⟩, l, o⟩ := f
  obtain ⟨q1, q2, q3, q4, q5, q6, q7⟩ := hb
  have r0 : Rd w.heap.size s false (w.alloc (.cells #[.string s, .bool false] 44)) := Blk.new _ w
  go_enter Tryd.func13, Tryd.ntmps13
  go_wp2_with fail
  refine (hm _ r0).mono ?_
  clear hm
  rintro e w1 ⟨s1, rfl, h1, r1, g1⟩
  have B1 : Below w.heap.size w w1 := ((Below.refl _ _).alloc (Nat.le_refl _) _).trans (below_of_grown g1 (by simp))
  have H1 := Lib.hid h1
  clear h1 g1
  unfold momV
  have ha := answer_any w.heap.size s1 (false || !o) y mo d hh mi sc a _ (r1.alloc (.cells #[.int .i64 y, .int .i64 mo, .int .i64 d, .int .i64 hh, .int .i64 mi, .int .i64 sc, .int .i64 a] 46)) q1 (fun h => q2 (by simpa using h)) q3 q4 q5 q6 q7
  rw [H1.out] at ha
  rw [show (!(false || !o)) = o by simp] at ha
  unfold momV AnsOut at ha
  unfold AnsOut
  generalize ansF (⟨y, mo, d, hh, mi, sc, a⟩, l, o) = r at *
  go_wp2_with fail
  refine ha.mono ?_
  clear ha
  rintro e w2 ⟨rfl, b2⟩
  have B2 := (B1.alloc (by have := B1.size; omega) _).trans b2
  cases r with
  | none =>
    unfold AnsV
    go_wp2
    go_ret2
    exact ⟨rfl, B2⟩
  | some v =>
    unfold AnsV
    go_wp2
    go_ret2
    exact ⟨rfl, B2⟩
end Go.Proofs.YtocmppafmaehcaaDoor
