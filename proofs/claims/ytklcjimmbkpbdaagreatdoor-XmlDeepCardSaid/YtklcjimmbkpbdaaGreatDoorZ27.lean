/-
  Of the proofs of layer 8 (elements of XML): the parts YMd YMe. No conditions.
-/
import Derived.Test.YtklcjimmbkpbdaaGreatDoorZ26
import Derived.Test.YtklcjimmbkpbdaaGreatDoorZ17
import Derived.OwnWalk
namespace Go.Proofs.YtklcjimmbkpbdaaGreatDoor
open Go.RowKit
open Go.Lib
def AsO (X : Nat) (s r : Bt) (o : Option (Option Bt)) (w : World) (e : Ending) (w' : World) : Prop := OX X w w' ∧ match o with
 | none => e = .returned (.tuple #[.bool true, .bool false])
 | some none => e = .returned (.tuple #[.bool false, .bool true]) ∧ TL X s r w'
 | some (some r') => e = .returned (.tuple #[.bool true, .bool true]) ∧ TL X s r' w'
theorem AsO.bad {X : Nat} {s r : Bt} {o : Option (Option Bt)} {w w' : World} (h : o = none) (ho : OX X w w') : AsO X s r o w (.returned (.tuple #[.bool true, .bool false])) w' := by subst h; exact ⟨ho, rfl⟩
theorem AsO.nix {X : Nat} {s r : Bt} {o : Option (Option Bt)} {w w' : World} (h : o = some none) (ho : OX X w w') (ht : TL X s r w') : AsO X s r o w (.returned (.tuple #[.bool false, .bool true])) w' := by subst h; exact ⟨ho, rfl, ht⟩
theorem AsO.good {X : Nat} {s r r' : Bt} {o : Option (Option Bt)} {w w' : World} (h : o = some (some r')) (ho : OX X w w') (ht : TL X s r' w') : AsO X s r o w (.returned (.tuple #[.bool true, .bool true])) w' := by subst h; exact ⟨ho, rfl, ht⟩
def ToY (X : Nat) (s wd : Bt) (lit : ByteArray) : Prop := ∀ W q a q', TL X s q W → toL wd q = some (a, q') → Calls Tryz.prog 84 #[.pointer (some ⟨X, 0, none⟩), .string lit] W (fun e w' => e = .returned (.tuple #[.string (bs a), .bool true]) ∧ TL X s q' w' ∧ OX X W w')
def ToN (X : Nat) (s wd : Bt) (lit : ByteArray) : Prop := ∀ W q, TL X s q W → toL wd q = none → Calls Tryz.prog 84 #[.pointer (some ⟨X, 0, none⟩), .string lit] W (fun e w' => e = .returned (.tuple #[.string ⟨#[]⟩, .bool false]) ∧ OX X W w')
theorem toY (X : Nat) {s : Bt} (hs : s.length ≤ 1000000000) (wd : Bt) (h0 : wd ≠ []) (hw : wd.length ≤ 1000) : ToY X s wd (bs wd) := fun _ _ _ _ h ho => tto8 h hs wd h0 hw _ ho
theorem toN (X : Nat) {s : Bt} (hs : s.length ≤ 1000000000) (wd : Bt) (h0 : wd ≠ []) (hw : wd.length ≤ 1000) : ToN X s wd (bs wd) := fun _ _ h ho => (tto8 h hs wd h0 hw _ ho).mono (fun _ _ h => ⟨h.1, h.2.2⟩)
set_option maxRecDepth 100000 in
set_option maxHeartbeats 1000000 in
theorem taside8 {X : Nat} {s r : Bt} {w : World} (h : TL X s r w) (hs : s.length ≤ 1000000000) (o : Option (Option Bt)) (ho : asideL r = o) :
    Calls Tryz.prog 55 #[.pointer (some ⟨X, 0, none⟩)] w (AsO X s r o w) := by
 have HNC := hid (fun W q (hW : TL X s q W) => tname8 hW hs)
 have HW1 : Hid (WdC X s [60, 33, 45, 45] ⟨#[60, 33, 45, 45]⟩) := hid (wdC X hs [60, 33, 45, 45] (by decide) (by decide))
 have HW2 : Hid (WdC X s [60, 63] ⟨#[60, 63]⟩) := hid (wdC X hs [60, 63] (by decide) (by decide))
 have HW3 : Hid (WdC X s [62] ⟨#[62]⟩) := hid (wdC X hs [62] (by decide) (by decide))
 have HY1 : Hid (ToY X s [45, 45] ⟨#[45, 45]⟩) := hid (toY X hs [45, 45] (by decide) (by decide))
 have HN1 : Hid (ToN X s [45, 45] ⟨#[45, 45]⟩) := hid (toN X hs [45, 45] (by decide) (by decide))
 have HY2 : Hid (ToY X s [63, 62] ⟨#[63, 62]⟩) := hid (toY X hs [63, 62] (by decide) (by decide))
 have HN2 : Hid (ToN X s [63, 62] ⟨#[63, 62]⟩) := hid (toN X hs [63, 62] (by decide) (by decide))
 unfold WdC at HW1 HW2 HW3
 unfold ToY at HY1 HY2
 unfold ToN at HN1 HN2
 have HQ : Hid (o = match wordL [60, 33, 45, 45] r with
  | some r => (remL r).map some
  | none => match wordL [60, 63] r with
   | some r => (insL r).map some
   | none => some none) := hid ho.symm
 have H0 := hid h
 clear h ho hs
 cases h1 : wordL [60, 33, 45, 45] r with
 | some r1 =>
  have HC1 := hid (HW1.out _ _ _ H0.out h1)
  have HQ1 : Hid (o = (match toL [45, 45] r1 with | none => none | some (_, r) => wordL [62] r).map some) := hid (by rw [HQ.out, h1]; rfl)
  clear HQ h1
  cases h2 : toL [45, 45] r1 with
  | none =>
   have HF : Hid (o = none) := hid (by rw [HQ1.out, h2]; rfl)
   have HC2 := hid (fun W hW => HN1.out W r1 hW h2)
   clear HQ1 h2
   go_enter Tryz.func55, Tryz.ntmps55
   go_wp2_with fail
   refine HC1.out.mono ?_
   rintro e w1 ⟨rfl, t1, o1⟩
   go_wp2_with fail
   refine (HC2.out _ t1).mono ?_
   rintro e w2 ⟨rfl, o2⟩
   have HO2 := hid (OX.trans o1 o2)
   clear o1 o2 t1
   go_wp2
   go_ret2
   exact AsO.bad HF.out HO2.out
  | some y =>
   obtain ⟨a, r2⟩ := y
   have HC2 := hid (fun W hW => HY1.out W r1 a r2 hW h2)
   have HQ2 : Hid (o = (wordL [62] r2).map some) := hid (by rw [HQ1.out, h2])
   clear HQ1 h2
   cases h3 : wordL [62] r2 with
   | none =>
    have HF : Hid (o = none) := hid (by rw [HQ2.out, h3]; rfl)
    have HC3 := hid (fun W hW => HW3.out W _ _ hW h3)
    clear HQ2 h3
    go_enter Tryz.func55, Tryz.ntmps55
    go_wp2_with fail
    refine HC1.out.mono ?_
    rintro e w1 ⟨rfl, t1, o1⟩
    go_wp2_with fail
    refine (HC2.out _ t1).mono ?_
    rintro e w2 ⟨rfl, t2, o2⟩
    go_wp2_with fail
    refine (HC3.out _ t2).mono ?_
    rintro e w3 ⟨rfl, t3, o3⟩
    have HO2 := hid (OX.trans (OX.trans o1 o2) o3)
    clear o1 o2 t1 t2 t3 o3
    go_wp2
    go_ret2
    exact AsO.bad HF.out HO2.out
   | some r3 =>
    have HF : Hid (o = some (some r3)) := hid (by rw [HQ2.out, h3]; rfl)
    have HC3 := hid (fun W hW => HW3.out W _ _ hW h3)
    clear HQ2 h3
    go_enter Tryz.func55, Tryz.ntmps55
    go_wp2_with fail
    refine HC1.out.mono ?_
    rintro e w1 ⟨rfl, t1, o1⟩
    go_wp2_with fail
    refine (HC2.out _ t1).mono ?_
    rintro e w2 ⟨rfl, t2, o2⟩
    go_wp2_with fail
    refine (HC3.out _ t2).mono ?_
    rintro e w3 ⟨rfl, t3, o3⟩
    have HO2 := hid (OX.trans (OX.trans o1 o2) o3)
    have HT3 : Hid (TL X s r3 w3) := hid t3
    clear o1 o2 t1 t2 t3 o3
    go_wp2
    go_ret2
    exact AsO.good HF.out HO2.out HT3.out
 | none =>
  have HC1 := hid (HW1.out _ _ _ H0.out h1)
  have HQ1 : Hid (o = match wordL [60, 63] r with
   | some r => (insL r).map some
   | none => some none) := hid (by rw [HQ.out, h1])
  clear HQ h1
  cases h2 : wordL [60, 63] r with
  | none =>
   have HC2 := hid (fun W hW => HW2.out W _ _ hW h2)
   have HF : Hid (o = some none) := hid (by rw [HQ1.out, h2])
   clear HQ1 h2
   go_enter Tryz.func55, Tryz.ntmps55
   go_wp2_with fail
   refine HC1.out.mono ?_
   rintro e w1 ⟨rfl, t1, o1⟩
   go_wp2_with fail
   refine (HC2.out _ t1).mono ?_
   rintro e w2 ⟨rfl, t2, o2⟩
   have HO2 := hid (OX.trans o1 o2)
   have HT2 : Hid (TL X s r w2) := hid t2
   clear o1 o2 t1 t2
   go_wp2
   go_ret2
   exact AsO.nix HF.out HO2.out HT2.out
  | some r1 =>
   have HC2 := hid (fun W hW => HW2.out W _ _ hW h2)
   have HQ2 : Hid (o = (if nameW r1 = 0 then none else (toL [63, 62] (r1.drop (nameW r1))).map (·.2)).map some) := hid (by rw [HQ1.out, h2]; rfl)
   have hnz : r1.take (nameW r1) = [] ↔ nameW r1 = 0 := name_nil
   have HNR := hid (fun W hW => HNC.out W r1 hW)
   obtain ⟨nm, hnm⟩ : ∃ x, r1.take (nameW r1) = x := ⟨_, rfl⟩
   obtain ⟨q1, hq1⟩ : ∃ x, r1.drop (nameW r1) = x := ⟨_, rfl⟩
   rw [hnm] at hnz HNR
   rw [hq1] at HQ2 HNR
   clear HQ1 h2 hnm hq1
   by_cases hn0 : nm = []
   ·have hs0 : (bs nm).toList = [] := by rw [bs_toList]; exact hn0
    have HF : Hid (o = none) := hid (by rw [HQ2.out, if_pos (hnz.1 hn0)]; rfl)
    clear hn0 hnz HQ2
    go_enter Tryz.func55, Tryz.ntmps55
    go_wp2_with fail
    refine HC1.out.mono ?_
    rintro e w1 ⟨rfl, t1, o1⟩
    go_wp2_with fail
    refine (HC2.out _ t1).mono ?_
    rintro e w2 ⟨rfl, t2, o2⟩
    go_wp2_with fail
    refine (HNR.out _ t2).mono ?_
    rintro e w3 ⟨rfl, t3, o3⟩
    have HO2 := hid (OX.trans (OX.trans o1 o2) o3)
    clear o1 o2 t1 t2 t3 o3
    go_wp2
    go_ret2
    exact AsO.bad HF.out HO2.out
   ·obtain ⟨hs0, hs1, hs2⟩ := bs_ne9 hn0
    have HQ3 : Hid (o = ((toL [63, 62] q1).map (·.2)).map some) := hid (by rw [HQ2.out, if_neg (fun h => hn0 (hnz.2 h))])
    clear hn0 hnz HQ2
    cases h3 : toL [63, 62] q1 with
    | none =>
     have HF : Hid (o = none) := hid (by rw [HQ3.out, h3]; rfl)
     have HC3 := hid (fun W hW => HN2.out W q1 hW h3)
     clear HQ3 h3
     go_enter Tryz.func55, Tryz.ntmps55
     go_wp2_with fail
     refine HC1.out.mono ?_
     rintro e w1 ⟨rfl, t1, o1⟩
     go_wp2_with fail
     refine (HC2.out _ t1).mono ?_
     rintro e w2 ⟨rfl, t2, o2⟩
     go_wp2_with fail
     refine (HNR.out _ t2).mono ?_
     rintro e w3 ⟨rfl, t3, o3⟩
     go_wp2_with fail
     refine (HC3.out _ t3).mono ?_
     rintro e w4 ⟨rfl, o4⟩
     have HO2 := hid (OX.trans (OX.trans (OX.trans o1 o2) o3) o4)
     clear o1 o2 t1 t2 t3 o3 o4
     go_wp2
     go_ret2
     exact AsO.bad HF.out HO2.out
    | some y =>
     obtain ⟨a, r3⟩ := y
     have HF : Hid (o = some (some r3)) := hid (by rw [HQ3.out, h3]; rfl)
     have HC3 := hid (fun W hW => HY2.out W q1 a r3 hW h3)
     clear HQ3 h3
     go_enter Tryz.func55, Tryz.ntmps55
     go_wp2_with fail
     refine HC1.out.mono ?_
     rintro e w1 ⟨rfl, t1, o1⟩
     go_wp2_with fail
     refine (HC2.out _ t1).mono ?_
     rintro e w2 ⟨rfl, t2, o2⟩
     go_wp2_with fail
     refine (HNR.out _ t2).mono ?_
     rintro e w3 ⟨rfl, t3, o3⟩
     go_wp2_with fail
     refine (HC3.out _ t3).mono ?_
     rintro e w4 ⟨rfl, t4, o4⟩
     have HO2 := hid (OX.trans (OX.trans (OX.trans o1 o2) o3) o4)
     have HT4 := hid t4
     clear o1 o2 t1 t2 t3 o3 o4 t4
     go_wp2
     go_ret2
     exact AsO.good HF.out HO2.out HT4.out
theorem blanks_idem (s : Bt) : blanksL (blanksL s) = blanksL s := by
 unfold blanksL
 induction s with
 | nil => rfl
 | cons c t ih =>
  by_cases h : isBl c = true
  ·rw [List.dropWhile_cons_of_pos h]; exact ih
  ·rw [List.dropWhile_cons_of_neg h, List.dropWhile_cons_of_neg h]
def ArO (X : Nat) (s : Bt) (o : Option Bt) (w : World) (e : Ending) (w' : World) : Prop := OX X w w' ∧ match o with
 | none => e = .returned (.bool false)
 | some r' => e = .returned (.bool true) ∧ TL X s r' w'
theorem ArO.bad {X : Nat} {s : Bt} {o : Option Bt} {w w' : World} (h : o = none) (ho : OX X w w') : ArO X s o w (.returned (.bool false)) w' := by subst h; exact ⟨ho, rfl⟩
theorem ArO.good {X : Nat} {s r' : Bt} {o : Option Bt} {w w' : World} (h : o = some r') (ho : OX X w w') (ht : TL X s r' w') : ArO X s o w (.returned (.bool true)) w' := by subst h; exact ⟨ho, rfl, ht⟩
set_option maxRecDepth 100000 in
set_option maxHeartbeats 1000000 in
theorem taround8 {X : Nat} {s r : Bt} {w : World} (h : TL X s r w) (hs : s.length ≤ 1000000000) (o : Option Bt) (ho : aroundL r = o) :
    Calls Tryz.prog 32 #[.pointer (some ⟨X, 0, none⟩)] w (ArO X s o w) := by
 have HBL := hid (fun W q (hW : TL X s q W) => tblanks8 hW hs)
 have HAS := hid (fun W q (hW : TL X s q W) oo (hoo : asideL q = oo) => taside8 hW hs oo hoo)
 unfold AsO at HAS
 have H0 := hid h
 have HQ0 : Hid (o = aroundL r) := hid ho.symm
 obtain ⟨n, hn⟩ : ∃ n, s.length = n := ⟨_, rfl⟩
 have HN := hid hn
 clear h ho hn
 go_enter Tryz.func32, Tryz.ntmps32
 go_wp2
 go_loopw [] (fun wr => ∃ q, Hid (TL X s q wr) ∧ Hid (o = aroundL q) ∧ Hid (OX X w wr)) (fun wr => n - atOf X wr)
 case atStart => exact ⟨r, H0, HQ0, hid (Off.refl _ _)⟩
 case round =>
  clear H0 HQ0
  obtain ⟨q, HT, HQ, HO⟩ := hrel
  have HAT := hid HT.out.at
  have HC1 := hid (HBL.out _ _ HT.out)
  have hle := blanks_le q
  have HQE := hid (aroundL_eq q)
  have HID := hid (blanks_idem q)
  have HNL : Hid ((blanksL q).length = q.length → blanksL q = q) := hid (fun h => (List.dropWhile_suffix _).eq_of_length h)
  obtain ⟨q1, hq1⟩ : ∃ x, blanksL q = x := ⟨_, rfl⟩
  rw [hq1] at HC1 hle HQE HID HNL
  obtain ⟨nq, hnq⟩ : ∃ n, q.length = n := ⟨_, rfl⟩
  obtain ⟨n1, hn1⟩ : ∃ n, q1.length = n := ⟨_, rfl⟩
  rw [hnq] at HC1 hle HNL HAT
  rw [hn1] at HC1 hle HNL
  have HN1 := hid hn1
  have HAS2 := hid (fun W (hW : TL X s q1 W) => HAS.out W q1 hW _ rfl)
  clear hq1 hnq hn1
  cases h1 : asideL q1 with
  | none =>
   have HF : Hid (o = none) := hid (by rw [HQ.out, HQE.out, h1])
   rw [h1] at HAS2
   clear h1
   go_wp2_with fail
   refine HC1.out.mono ?_
   rintro e w1 ⟨rfl, t1, o1⟩
   go_wp2_with fail
   refine (HAS2.out _ t1).mono ?_
   rintro e w2 ⟨o2, rfl⟩
   have HO2 := hid (OX.trans (OX.trans HO.out o1) o2)
   clear t1 o1 o2
   go_wp2
   go_ret
   exact ArO.bad HF.out HO2.out
  | some y =>
   cases y with
   | none =>
    rw [h1] at HAS2
    have HF : Hid (o = some q1) := hid (by rw [HQ.out, HQE.out, h1])
    have HG : Hid (o = aroundL q1) := hid (by rw [HF.out, aroundL_eq, HID.out, h1])
    clear h1
    by_cases hz : n1 = nq
    ·have hz1 : ((nq : Int) - (n1 : Int) == 0) = true := by rw [hz]; simp
     have hz2 : (nq : Int) - (n1 : Int) = 0 := by omega
     clear hz
     go_wp2_with fail
     refine HC1.out.mono ?_
     rintro e w1 ⟨rfl, t1, o1⟩
     go_wp2_with fail
     refine (HAS2.out _ t1).mono ?_
     rintro e w2 ⟨o2, rfl, t2⟩
     have HO2 := hid (OX.trans (OX.trans HO.out o1) o2)
     have HT2 := hid t2
     clear t1 o1 o2 t2
     go_wp2
     go_ret
     exact ArO.good HF.out HO2.out HT2.out
    ·have hz2 : ¬ (nq : Int) - (n1 : Int) = 0 := by omega
     have hz1 : ((nq : Int) - (n1 : Int) == 0) = false := by simpa using hz2
     go_wp2_with fail
     refine HC1.out.mono ?_
     rintro e w1 ⟨rfl, t1, o1⟩
     go_wp2_with fail
     refine (HAS2.out _ t1).mono ?_
     rintro e w2 ⟨o2, rfl, t2⟩
     have HO2 := hid (OX.trans (OX.trans HO.out o1) o2)
     have HT2 := hid t2
     have HA2 := hid t2.at
     clear t1 o1 o2 t2
     go_wp2
     exact ⟨⟨q1, HT2, HG, HO2⟩, by have h1 := HA2.out; have h2 := HAT.out; have h3 := HN.out; have h4 := HN1.out; omega⟩
   | some r2 =>
    rw [h1] at HAS2
    have HG : Hid (o = aroundL r2) := hid (by rw [HQ.out, HQE.out, h1])
    have hl2 := aside_len h1
    rw [HN1.out] at hl2
    clear h1
    by_cases hz : n1 = nq
    ·have hz1 : ((nq : Int) - (n1 : Int) == 0) = true := by rw [hz]; simp
     have hz2 : (nq : Int) - (n1 : Int) = 0 := by omega
     go_wp2_with fail
     refine HC1.out.mono ?_
     rintro e w1 ⟨rfl, t1, o1⟩
     go_wp2_with fail
     refine (HAS2.out _ t1).mono ?_
     rintro e w2 ⟨o2, rfl, t2⟩
     have HO2 := hid (OX.trans (OX.trans HO.out o1) o2)
     have HT2 := hid t2
     have HA2 := hid t2.at
     clear t1 o1 o2 t2
     go_wp2
     exact ⟨⟨r2, HT2, HG, HO2⟩, by have h1 := HA2.out; have h2 := HAT.out; have h3 := HN.out; omega⟩
    ·have hz2 : ¬ (nq : Int) - (n1 : Int) = 0 := by omega
     have hz1 : ((nq : Int) - (n1 : Int) == 0) = false := by simpa using hz2
     go_wp2_with fail
     refine HC1.out.mono ?_
     rintro e w1 ⟨rfl, t1, o1⟩
     go_wp2_with fail
     refine (HAS2.out _ t1).mono ?_
     rintro e w2 ⟨o2, rfl, t2⟩
     have HO2 := hid (OX.trans (OX.trans HO.out o1) o2)
     have HT2 := hid t2
     have HA2 := hid t2.at
     clear t1 o1 o2 t2
     go_wp2
     exact ⟨⟨r2, HT2, HG, HO2⟩, by have h1 := HA2.out; have h2 := HAT.out; have h3 := HN.out; omega⟩
abbrev TSp : TypeId := 65
def FdV (o : Option Bt) : Value := .tuple #[.string (bs (o.getD [])), .bool o.isSome]
set_option maxRecDepth 100000 in
set_option maxHeartbeats 1000000 in
theorem rfind8 {T : Nat → Prop} {A : Option Addr} {c : Nat} {l : XS} {w : World} (hR : RC w T A (cS l)) (hl : l.length ≤ 1000000) (p : Bt) :
    Calls Tryz.prog 58 #[.slice A l.length c, .string (bs p)] w fun e w' => e = .returned (FdV (findX l p)) ∧ w' = w := by
 obtain ⟨n, hn⟩ : ∃ n, l.length = n := ⟨_, rfl⟩
 have HN := hid hn
 have HR := hid hR
 obtain ⟨o, ho⟩ : ∃ o, findX l p = o := ⟨_, rfl⟩
 have HQ0 : Hid (o = findX (l.take n) p) := hid (by rw [← ho, List.take_of_length_le (by omega)])
 have HST := hid (fun (k : Nat) (h : k < l.length) => find_take h p)
 rw [hn] at hl ⊢
 rw [ho]
 clear hR hn ho
 go_enter Tryz.func58, Tryz.ntmps58
 go_wp2
 go_loop [6] (fun i => ∃ k : Nat, k ≤ n ∧ i = .int .i64 ((k : Int) - 1) ∧ Hid (o = findX (l.take k) p)) (fun i => ((RowKit.intOf i) + 1).toNat)
 case atStart => exact ⟨n, Nat.le_refl _, rfl, HQ0⟩
 case round =>
  clear HQ0
  obtain ⟨k, hk, rfl, HQ⟩ := hrel
  cases k with
  | zero =>
   have HF : Hid (o = none) := hid (by rw [HQ.out, List.take_zero]; rfl)
   have h1 : ¬ (0 : Int) ≤ ((0 : Nat) : Int) - 1 := by omega
   go_wp2
   go_ret2
   exact ⟨by rw [HF.out]; rfl, rfl⟩
  | succ k =>
   have hkl : k < l.length := by rw [HN.out]; omega
   obtain ⟨bb, off, hAe, hT, hbl, hcl⟩ := HR.out (by rw [cS_len]; omega)
   obtain ⟨c0, c1⟩ := RC.s2 hcl k hkl
   have HSK := hid (HST.out k hkl)
   obtain ⟨d, hd⟩ : ∃ d, l[k] = d := ⟨_, rfl⟩
   rw [hd] at c0 c1 HSK
   obtain ⟨⟨dp, dv⟩, rfl⟩ : ∃ x : Bt × Bt, d = x := ⟨_, rfl⟩
   simp only at c0 c1
   have e1 : ((k + 1 : Nat) : Int) - 1 = (k : Int) := by omega
   have e2 : (k : Int) + 1 - 1 = (k : Int) := by omega
   have h1 : (0 : Int) ≤ (k : Int) := by omega
   have h2 : (k : Int) < (n : Int) := by omega
   subst hAe
   clear hd hcl
   by_cases hp : dp = p
   ·have hr : ((bs dp).toList == (bs p).toList) = true := by rw [hp]; exact beq_self_eq_true _
    have hr2 : (bs dp).toList = (bs p).toList := by rw [hp]
    have HF : Hid (o = some dv) := hid (by rw [HQ.out, HSK.out, if_pos hp])
    clear hp
    go_wp2
    go_ret2
    exact ⟨by rw [HF.out]; rfl, rfl⟩
   ·have hr2 : ¬ (bs dp).toList = (bs p).toList := by rw [bs_toList, bs_toList]; exact hp
    have hr : ((bs dp).toList == (bs p).toList) = false := beq_eq_false_iff_ne.2 hr2
    have HF : Hid (o = findX (l.take k) p) := hid (by rw [HQ.out, HSK.out, if_neg hp])
    clear hp
    go_wp2
    go_round
    case rel => exact ⟨k, by omega, by first | rfl | go_num, HF⟩
    case measure => simp [RowKit.intOf]
def fQ (m : XM) : List Value := [sV m.1.1, sV m.1.2, sV m.2, .bool (!(m.1.1 == []))]
def cQ (l : List XM) : List Value := l.flatMap fQ
theorem cQ_len (l : List XM) : (cQ l).length = l.length * 4 := flat_len (f := fQ) (k := 4) (fun _ => rfl) l
theorem cQ_snoc (l : List XM) (m : XM) : cQ (l ++ [m]) = cQ l ++ fQ m := by simp [cQ]
theorem RC.q4 {w : World} {b off : Nat} {l : List XM} (hc : ∀ j u, (cQ l)[j]? = some u → w.cell? ⟨b, off + j, none⟩ = some u) (j : Nat) (h : j < l.length) :
    w.cell? ⟨b, off + j * 4, none⟩ = some (sV l[j].1.1) ∧ w.cell? ⟨b, off + j * 4 + 1, none⟩ = some (sV l[j].1.2) ∧ w.cell? ⟨b, off + j * 4 + 2, none⟩ = some (sV l[j].2) ∧ w.cell? ⟨b, off + j * 4 + 3, none⟩ = some (.bool (!(l[j].1.1 == []))) := by
 have h0 := hc (j * 4 + 0) _ (flat_at (f := fQ) (fun _ => rfl) l j 0 h (by omega))
 have h1 := hc (j * 4 + 1) _ (flat_at (f := fQ) (fun _ => rfl) l j 1 h (by omega))
 have h2 := hc (j * 4 + 2) _ (flat_at (f := fQ) (fun _ => rfl) l j 2 h (by omega))
 have h3 := hc (j * 4 + 3) _ (flat_at (f := fQ) (fun _ => rfl) l j 3 h (by omega))
 exact ⟨h0, h1, h2, h3⟩
theorem Tryz.info8Q : (Tryz.prog.info? TMk).map (fun i => (i.zero, i.size, i.bytes)) = some (some (.agg #[.string ⟨#[]⟩, .string ⟨#[]⟩, .string ⟨#[]⟩, .bool false]), 4, 56) := by kernel_rfl
def TgO (X : Nat) (s : Bt) (o : Option (List XM × Bool × Bt)) (w : World) (e : Ending) (w' : World) : Prop := OX X w w' ∧ match o with
 | none => e = .returned (.tuple #[.slice none 0 0, .bool false, .bool false])
 | some (ms, c, r') => ∃ A cap, e = .returned (.tuple #[.slice A ms.length cap, .bool c, .bool true]) ∧ ms.length ≤ cap ∧ RC w' (fun b => w.heap.size ≤ b ∧ b < w'.heap.size) A (cQ ms) ∧ TL X s r' w'
theorem TgO.bad {X : Nat} {s : Bt} {o : Option (List XM × Bool × Bt)} {w w' : World} (h : o = none) (ho : OX X w w') : TgO X s o w (.returned (.tuple #[.slice none 0 0, .bool false, .bool false])) w' := by subst h; exact ⟨ho, rfl⟩
theorem TgO.good {X : Nat} {s r' : Bt} {o : Option (List XM × Bool × Bt)} {ms : List XM} {c : Bool} {v : Value} {w w' : World} (h : o = some (ms, c, r')) (ho : OX X w w') (hv : w'.ownsRow w.heap.size TMk 4 v ms.length (cQ ms)) (ht : TL X s r' w') : TgO X s o w (.returned (.tuple #[v, .bool c, .bool true])) w' := by
 subst h
 obtain ⟨A, cap, rfl, hc, hr⟩ := RC.of_own hv (fun b => w.heap.size ≤ b ∧ b < w'.heap.size) (fun b hb => World.ownsRow.lt hv b hb)
 exact ⟨ho, A, cap, rfl, hc, hr, ht⟩
theorem mk_one {a b c : Bt} {d : Bool} : ∀ u ∈ [sV a, sV b, sV c, .bool d], u.oneCell' = true := by
 intro u hu
 simp only [List.mem_cons, List.not_mem_nil, or_false] at hu
 rcases hu with rfl | rfl | rfl | rfl <;> rfl
theorem own_tape {X k n : Nat} {_s : Bt} {w : World} {B : Nat} {v : Value} {xs : List Value} (h : w.ownsRow B TMk k v n xs) (ht : X < B) : v.ownBlock ≠ some X := fun e => by
 have := (World.ownsRow.lt h X e).1
 omega
theorem value_q {c : UInt8} {r : Bt} (h : c = 34 ∨ c = 39) : valueL (c :: r) = match toL [c] r with
    | none => none
    | some (v, r') => if (60 : UInt8) ∈ v then none else (refsL (linesL v)).map fun x => (x, r') := by rw [valueL, if_pos h]; rfl
theorem value_no {q : Bt} (h1 : wordL [34] q = none) (h2 : wordL [39] q = none) : valueL q = none := by
 cases q with
 | nil => rfl
 | cons c r =>
  rw [valueL, if_neg]
  rintro (rfl | rfl)
  ·simp [wordL, List.isPrefixOf] at h1
  ·simp [wordL, List.isPrefixOf] at h2
theorem value_yes {q r : Bt} {c : UInt8} (h : wordL [c] q = some r) : q = c :: r := by
 cases q with
 | nil => simp [wordL, List.isPrefixOf] at h
 | cons d t =>
  unfold wordL at h
  split at h
  ·rename_i hp
   injection h with h
   have : c = d := by simpa [List.isPrefixOf] using hp
   subst this
   rw [← h]
   rfl
  ·cases h
theorem word_pref {wd q : Bt} : (wordL wd q).isSome = wd.isPrefixOf q := by
 unfold wordL
 cases h : wd.isPrefixOf q <;> simp
set_option maxRecDepth 100000 in
set_option maxHeartbeats 1000000 in
theorem ttag8 {X : Nat} {s r : Bt} {w : World} (h : TL X s r w) (hs : s.length ≤ 1000000) (o : Option (List XM × Bool × Bt)) (ho : tagL r = o) :
    Calls Tryz.prog 57 #[.pointer (some ⟨X, 0, none⟩)] w (TgO X s o w) := by
 have hs9 : s.length ≤ 1000000000 := by omega
 have HBL := hid (fun W q (hW : TL X s q W) => tblanks8 hW hs9)
 have HMK := hid (fun W q (hW : TL X s q W) oo (hoo : markL q = oo) => tmark8 hW hs9 oo hoo)
 unfold MkO at HMK
 have HW1 : Hid (WdC X s [47, 62] ⟨#[47, 62]⟩) := hid (wdC X hs9 [47, 62] (by decide) (by decide))
 have HW2 : Hid (WdC X s [62] ⟨#[62]⟩) := hid (wdC X hs9 [62] (by decide) (by decide))
 have HW3 : Hid (WdC X s [61] ⟨#[61]⟩) := hid (wdC X hs9 [61] (by decide) (by decide))
 have HW4 : Hid (WdC X s [34] ⟨#[34]⟩) := hid (wdC X hs9 [34] (by decide) (by decide))
 have HW5 : Hid (WdC X s [39] ⟨#[39]⟩) := hid (wdC X hs9 [39] (by decide) (by decide))
 unfold WdC at HW1 HW2 HW3 HW4 HW5
 have HLK : Hid (∀ W q, TL X s q W → Calls Tryz.prog 31 #[.pointer (some ⟨X, 0, none⟩), .string ⟨#[34]⟩] W (fun e w' => e = .returned (.bool (wordL [34] q).isSome) ∧ Below W.heap.size W w')) := hid (fun W q hW => tllooks hW hs9 [34] (by decide) (by decide) _ word_pref.symm)
 have HT4 : Hid (∀ W q, TL X s q W → Calls Tryz.prog 84 #[.pointer (some ⟨X, 0, none⟩), .string ⟨#[34]⟩] W (fun e w' => e = .returned (.tuple #[.string (bs (((toL [34] q).map (·.1)).getD [])), .bool (toL [34] q).isSome]) ∧ TL X s (((toL [34] q).map (·.2)).getD []) w' ∧ OX X W w')) := hid (fun W q hW => tto8 hW hs9 [34] (by decide) (by decide) _ rfl)
 have HT5 : Hid (∀ W q, TL X s q W → Calls Tryz.prog 84 #[.pointer (some ⟨X, 0, none⟩), .string ⟨#[39]⟩] W (fun e w' => e = .returned (.tuple #[.string (bs (((toL [39] q).map (·.1)).getD [])), .bool (toL [39] q).isSome]) ∧ TL X s (((toL [39] q).map (·.2)).getD []) w' ∧ OX X W w')) := hid (fun W q hW => tto8 hW hs9 [39] (by decide) (by decide) _ rfl)
 have HLN := hid (fun (x : Bt) (hx : x.length ≤ 1000000) W => rlines_any x W hx)
 have HRF := hid (fun (x : Bt) (hx : x.length ≤ 1000000) W => rrefs_any x W hx)
 unfold RfO at HRF
 have hXl := h.lt
 have hle := h.le
 have H0 := hid h
 have HQ0 : Hid (o = (tagL r).map fun x => (([] : List XM) ++ x.1, x.2)) := hid (by rw [ho]; cases o <;> rfl)
 obtain ⟨n, hn⟩ : ∃ n, s.length = n := ⟨_, rfl⟩
 have HN := hid hn
 have hn9 : n ≤ 1000000 := by omega
 have HLE : Hid (r.length ≤ n) := hid (by omega)
 clear h ho hs hs9 hle hn
 go_enter Tryz.func57, Tryz.ntmps57
 go_wp2
 go_loopw [5] (fun v5 wr => ∃ q ms, Hid (TL X s q wr) ∧ Hid (wr.ownsRow w.heap.size TMk 4 v5 ms.length (cQ ms)) ∧ Hid (OX X w wr) ∧ Hid (o = (tagL q).map fun x => (ms ++ x.1, x.2)) ∧ Hid (ms.length + q.length ≤ n)) (fun _ wr => n - atOf X wr)
 case atStart => exact ⟨r, [], H0, hid (World.ownsRow_nil _ _ _ _), hid (Off.refl _ _), HQ0, hid (by have := HLE.out; simpa using this)⟩
 case round =>
  clear H0 HQ0 HLE
  obtain ⟨q, ms, HT, HOW, HO, HQ, HL⟩ := hrel
  have HAT := hid HT.out.at
  have HC1 := hid (HBL.out _ _ HT.out)
  have HTE := hid (tagL_eq q)
  have hb1 := blanks_le q
  obtain ⟨q1, hq1⟩ : ∃ x, blanksL q = x := ⟨_, rfl⟩
  obtain ⟨nq, hnq⟩ : ∃ n, q.length = n := ⟨_, rfl⟩
  rw [hq1, hnq] at HC1 HTE hb1
  rw [hnq] at HAT HL
  obtain ⟨n1, hn1⟩ : ∃ n, q1.length = n := ⟨_, rfl⟩
  rw [hn1] at HC1 HTE hb1
  have HN1 := hid hn1
  clear hq1 hnq hn1
  cases hw1 : wordL [47, 62] q1 with
  | some r1 =>
   have HF : Hid (o = some (ms, true, r1)) := hid (by rw [HQ.out, HTE.out, hw1]; simp)
   have HCa := hid (fun W hW => HW1.out W q1 _ hW hw1)
   clear hw1 HTE HQ
   go_wp2_with fail
   refine HC1.out.mono ?_
   rintro e w1 ⟨rfl, t1, o1⟩
   go_wp2_with fail
   refine (HCa.out _ t1).mono ?_
   rintro e w2 ⟨rfl, t2, o2⟩
   have HO2 := hid (OX.trans (OX.trans HO.out o1) o2)
   have HT2 : Hid (TL X s r1 w2) := hid t2
   have HOW2 := hid (own_off HOW.out (OX.trans o1 o2) (fun b hb e => own_tape (_s := s) HOW.out hXl (by rw [hb, e])))
   clear t1 o1 t2 o2
   go_wp2
   go_ret3
   exact TgO.good HF.out HO2.out HOW2.out HT2.out
  | none =>
   have HCa := hid (fun W hW => HW1.out W q1 _ hW hw1)
   rw [hw1] at HTE
   clear hw1
   cases hw2 : wordL [62] q1 with
   | some r1 =>
    have HF : Hid (o = some (ms, false, r1)) := hid (by rw [HQ.out, HTE.out, hw2]; simp)
    have HCb := hid (fun W hW => HW2.out W q1 _ hW hw2)
    clear hw2 HTE HQ
    go_wp2_with fail
    refine HC1.out.mono ?_
    rintro e w1 ⟨rfl, t1, o1⟩
    go_wp2_with fail
    refine (HCa.out _ t1).mono ?_
    rintro e w2 ⟨rfl, t2, o2⟩
    go_wp2_with fail
    refine (HCb.out _ t2).mono ?_
    rintro e w3 ⟨rfl, t3, o3⟩
    have HO3 := hid (OX.trans (OX.trans (OX.trans HO.out o1) o2) o3)
    have HT3 : Hid (TL X s r1 w3) := hid t3
    have HOW3 := hid (own_off HOW.out (OX.trans (OX.trans o1 o2) o3) (fun b hb e => own_tape (_s := s) HOW.out hXl (by rw [hb, e])))
    clear t1 o1 t2 o2 t3 o3
    go_wp2
    go_ret3
    exact TgO.good HF.out HO3.out HOW3.out HT3.out
   | none =>
    have HCb := hid (fun W hW => HW2.out W q1 _ hW hw2)
    rw [hw2] at HTE
    clear hw2
    cases hmk : markL q1 with
    | none =>
     have HF : Hid (o = none) := hid (by
      rw [HQ.out, HTE.out]
      simp only [attrL, hmk]
      split <;> rfl)
     have HCc := hid (fun W hW => HMK.out W q1 hW _ hmk)
     clear hmk HTE HQ
     go_wp2_with fail
     refine HC1.out.mono ?_
     rintro e w1 ⟨rfl, t1, o1⟩
     go_wp2_with fail
     refine (HCa.out _ t1).mono ?_
     rintro e w2 ⟨rfl, t2, o2⟩
     go_wp2_with fail
     refine (HCb.out _ t2).mono ?_
     rintro e w3 ⟨rfl, t3, o3⟩
     go_wp2_with fail
     refine (HCc.out _ t3).mono ?_
     rintro e w4 ⟨o4, a, b, c, d, _, rfl, _⟩
     have HO4 := hid (OX.trans (OX.trans (OX.trans (OX.trans HO.out o1) o2) o3) o4)
     have HO5 := hid (OX.trans HO4.out (OX.of (below_alloc8 w4 (.cells #[sV a, sV b, sV c, .bool d] TMk (0, 0)))))
     clear t1 o1 t2 o2 t3 o3 o4
     go_wp2
     go_ret3
     exact TgO.bad HF.out HO5.out
    | some y =>
     obtain ⟨nm, r2⟩ := y
     obtain ⟨hb, hhb⟩ : ∃ b, (!(nm.1 == [])) = b := ⟨_, rfl⟩
     have HHB := hid hhb
     have HCc : Hid (∀ W, TL X s q1 W → Calls Tryz.prog 56 #[.pointer (some ⟨X, 0, none⟩)] W (fun e w' => OX X W w' ∧ e = .returned (.tuple #[.agg #[sV nm.1, sV nm.2, .string ⟨#[]⟩, .bool hb], .bool true]) ∧ TL X s r2 w')) := hid (fun W hW => (HMK.out W q1 hW _ hmk).mono (fun e w' h => ⟨h.1, by have h2 := h.2.1; unfold MkA at h2; rw [hhb] at h2; exact h2, h.2.2⟩))
     clear hhb
     have HAE : Hid (attrL q1 = match wordL [61] (blanksL r2) with
      | none => none
      | some r => (valueL (blanksL r)).map fun x => ((nm, x.1), x.2)) := hid (by unfold attrL; rw [hmk]; rfl)
     have hml := mark_len hmk
     rw [HN1.out] at hml
     clear hmk
     by_cases hz : n1 = nq
     ·have hz1 : ((nq : Int) - (n1 : Int) == 0) = true := by rw [hz]; simp
      have hz2 : (nq : Int) - (n1 : Int) = 0 := by omega
      have HF : Hid (o = none) := hid (by rw [HQ.out, HTE.out]; simp only [hz, if_true]; rfl)
      clear hz HTE HQ
      go_wp2_with fail
      refine HC1.out.mono ?_
      rintro e w1 ⟨rfl, t1, o1⟩
      go_wp2_with fail
      refine (HCa.out _ t1).mono ?_
      rintro e w2 ⟨rfl, t2, o2⟩
      go_wp2_with fail
      refine (HCb.out _ t2).mono ?_
      rintro e w3 ⟨rfl, t3, o3⟩
      go_wp2_with fail
      refine (HCc.out _ t3).mono ?_
      rintro e w4 ⟨o4, rfl, t4⟩
      have bq := below_alloc8 w4 (.cells #[sV nm.1, sV nm.2, .string ⟨#[]⟩, .bool hb] TMk (0, 0))
      have HMB := hid (Blk.new (.cells #[sV nm.1, sV nm.2, .string ⟨#[]⟩, .bool hb] TMk (0, 0)) w4)
      have o14 := OX.trans (OX.trans (OX.trans o1 o2) o3) o4
      have HO5 := hid (OX.trans (OX.trans HO.out o14) (OX.of bq))
      have HOW5 := hid (own_off HOW.out (OX.trans o14 (OX.of bq)) (fun b hb e => own_tape (_s := s) HOW.out hXl (by rw [hb, e])))
      have HT5b := hid (t4.below bq)
      have hMw : w.heap.size ≤ w4.heap.size := Nat.le_trans HO.out.size o14.size
      have hMr : wr.heap.size ≤ w4.heap.size := o14.size
      have HOM : Hid (∀ b, u5.ownBlock = some b → b < wr.heap.size) := hid (fun b hb => (World.ownsRow.lt HOW.out b hb).2)
      clear t1 o1 t2 o2 t3 o3 o4 t4 bq o14
      go_wp2
      go_ret3
      exact TgO.bad HF.out HO5.out
     ·have hz2 : ¬ (nq : Int) - (n1 : Int) = 0 := by omega
      have hz1 : ((nq : Int) - (n1 : Int) == 0) = false := by simpa using hz2
      have HTE2 : Hid (tagL q = match attrL q1 with | none => none | some (m, r) => (tagL r).map fun x => (m :: x.1, x.2)) := hid (by rw [HTE.out]; show (if n1 = nq then none else _) = _; rw [if_neg hz]; rfl)
      clear hz HTE
      have HC5 := hid (fun W hW => HBL.out W r2 hW)
      have hb3 := blanks_le r2
      obtain ⟨q3, hq3⟩ : ∃ x, blanksL r2 = x := ⟨_, rfl⟩
      rw [hq3] at HC5 HAE hb3
      clear hq3
      cases hw3 : wordL [61] q3 with
      | none =>
       have HF : Hid (o = none) := hid (by rw [HQ.out, HTE2.out, HAE.out, hw3]; rfl)
       have HCd := hid (fun W hW => HW3.out W q3 _ hW hw3)
       clear hw3 HTE2 HQ
       go_wp2_with fail
       refine HC1.out.mono ?_
       rintro e w1 ⟨rfl, t1, o1⟩
       go_wp2_with fail
       refine (HCa.out _ t1).mono ?_
       rintro e w2 ⟨rfl, t2, o2⟩
       go_wp2_with fail
       refine (HCb.out _ t2).mono ?_
       rintro e w3 ⟨rfl, t3, o3⟩
       go_wp2_with fail
       refine (HCc.out _ t3).mono ?_
       rintro e w4 ⟨o4, rfl, t4⟩
       have bq := below_alloc8 w4 (.cells #[sV nm.1, sV nm.2, .string ⟨#[]⟩, .bool hb] TMk (0, 0))
       have HMB := hid (Blk.new (.cells #[sV nm.1, sV nm.2, .string ⟨#[]⟩, .bool hb] TMk (0, 0)) w4)
       have o14 := OX.trans (OX.trans (OX.trans o1 o2) o3) o4
       have HO5 := hid (OX.trans (OX.trans HO.out o14) (OX.of bq))
       have HOW5 := hid (own_off HOW.out (OX.trans o14 (OX.of bq)) (fun b hb e => own_tape (_s := s) HOW.out hXl (by rw [hb, e])))
       have HT5b := hid (t4.below bq)
       have hMw : w.heap.size ≤ w4.heap.size := Nat.le_trans HO.out.size o14.size
       have hMr : wr.heap.size ≤ w4.heap.size := o14.size
       have HOM : Hid (∀ b, u5.ownBlock = some b → b < wr.heap.size) := hid (fun b hb => (World.ownsRow.lt HOW.out b hb).2)
       clear t1 o1 t2 o2 t3 o3 o4 t4 bq o14
       obtain ⟨M, hM⟩ : ∃ M, w4.heap.size = M := ⟨_, rfl⟩
       rw [hM] at HMB hMw hMr
       have hXM : X < M := by omega
       go_wp2_with fail
       refine (HC5.out _ HT5b.out).mono ?_
       rintro e w6 ⟨rfl, t6, o6⟩
       have HMB6 := hid (o6.blk HMB.out (fun e => by omega))
       have HO6 := hid (OX.trans HO5.out o6)
       have HOW6 := hid (own_off HOW5.out o6 (fun b hb e => own_tape (_s := s) HOW5.out hXl (by rw [hb, e])))
       clear o6 HMB HO5 HOW5 HT5b HC1 HCa HCb HCc
       go_wp2_with fail
       refine (HCd.out _ t6).mono ?_
       rintro e w7 ⟨rfl, t7, o7⟩
       have HO7 := hid (OX.trans HO6.out o7)
       clear t6 t7 o7
       go_wp2
       go_ret3
       exact TgO.bad HF.out HO7.out
      | some r4 =>
       have HCd := hid (fun W hW => HW3.out W q3 _ hW hw3)
       have hl4 := word_len hw3
       have HC6 := hid (fun W hW => HBL.out W r4 hW)
       have HAE2 : Hid (attrL q1 = (valueL (blanksL r4)).map fun x => ((nm, x.1), x.2)) := hid (by rw [HAE.out, hw3])
       have hb5 := blanks_le r4
       obtain ⟨q5, hq5⟩ : ∃ x, blanksL r4 = x := ⟨_, rfl⟩
       rw [hq5] at HC6 HAE2 hb5
       clear hw3 HAE hq5
       cases hw4 : wordL [34] q5 with
       | some r6 =>
        have HLQ := hid (fun W hW => HLK.out W q5 hW)
        rw [hw4] at HLQ
        have HCe := hid (fun W hW => HW4.out W q5 _ hW hw4)
        have hl6 := word_len hw4
        have HVA : Hid (valueL q5 = match toL [34] r6 with
         | none => none
         | some (v, r') => if (60 : UInt8) ∈ v then none else (refsL (linesL v)).map fun x => (x, r')) := hid (by rw [value_yes hw4]; exact value_q (.inl rfl))
        have HCf := hid (fun W hW => HT4.out W r6 hW)
        have HTL := hid (fun a b h => @to_len [34] r6 a b h)
        obtain ⟨tt, htt⟩ : ∃ x, toL [34] r6 = x := ⟨_, rfl⟩
        rw [htt] at HVA HCf HTL
        clear hw4 htt
        obtain ⟨v, hv⟩ : ∃ x, (tt.map (·.1)).getD [] = x := ⟨_, rfl⟩
        obtain ⟨bt, hbt⟩ : ∃ x, tt.isSome = x := ⟨_, rfl⟩
        have hvl : v.length ≤ 1000000 := by
         rw [← hv]
         cases htt : tt with
         | none => simp
         | some y => have := HTL.out y.1 y.2 htt; have := HL.out; simp; omega
        obtain ⟨r7, hr7⟩ : ∃ x, (tt.map (·.2)).getD [] = x := ⟨_, rfl⟩
        have HQV : Hid (o = if bt = true ∧ (60 : UInt8) ∉ v then (match refsL (linesL v) with | none => none | some x => (tagL r7).map fun y => ((ms ++ [(nm, x)]) ++ y.1, y.2)) else none) := hid (by
         rw [HQ.out, HTE2.out, HAE2.out, HVA.out, ← hv, ← hbt, ← hr7]
         cases htt : tt with
         | none => simp
         | some y =>
          obtain ⟨a, b⟩ := y
          simp only [Option.map_some, Option.getD_some, Option.isSome_some, true_and]
          by_cases h60 : (60 : UInt8) ∈ a
          ·rw [if_pos h60, if_neg (fun h => h h60)]
           rfl
          ·rw [if_neg h60, if_pos h60]
           cases refsL (linesL a) with
           | none => rfl
           | some x =>
            simp only [Option.map_some, Option.map_map]
            congr 1
            funext y
            simp only [Function.comp, List.append_assoc, List.singleton_append])
        have hr7l : bt = true → r7.length < nq := by
         intro hb
         rw [← hbt] at hb
         rw [← hr7]
         cases htt : tt with
         | none => rw [htt] at hb; cases hb
         | some y => have := HTL.out y.1 y.2 htt; simp only [List.length_cons, List.length_nil] at this hl4 hl6; simp only [Option.map_some, Option.getD_some]; omega
        have HR7 := hid hr7l
        rw [hv, hbt, hr7] at HCf
        have hvl9 := lines_le v
        have HCl := hid (fun W => HLN.out v hvl W)
        have HCr := hid (fun W => HRF.out (linesL v) (by omega) W)
        obtain ⟨vl, hvl2⟩ : ∃ x, v.length = x := ⟨_, rfl⟩
        have HVX := hid (fun (k : Nat) (hk : k < v.length) W => byte_run8 v k _ hk rfl W)
        have HVL := hid hvl2
        have hvz : (bs v).size = vl := by rw [bs_size, hvl2]
        rw [hvl2] at hvl
        obtain ⟨rf, hrf⟩ : ∃ x, refsL (linesL v) = x := ⟨_, rfl⟩
        rw [hrf] at HCr HQV
        clear hv hbt hr7 hr7l hvl9 hvl2 hrf HQ HTE2 HAE2 HVA HTL
        go_wp2_with fail
        refine HC1.out.mono ?_
        rintro e w1 ⟨rfl, t1, o1⟩
        go_wp2_with fail
        refine (HCa.out _ t1).mono ?_
        rintro e w2 ⟨rfl, t2, o2⟩
        go_wp2_with fail
        refine (HCb.out _ t2).mono ?_
        rintro e w3 ⟨rfl, t3, o3⟩
        go_wp2_with fail
        refine (HCc.out _ t3).mono ?_
        rintro e w4 ⟨o4, rfl, t4⟩
        have bq := below_alloc8 w4 (.cells #[sV nm.1, sV nm.2, .string ⟨#[]⟩, .bool hb] TMk (0, 0))
        have HMB := hid (Blk.new (.cells #[sV nm.1, sV nm.2, .string ⟨#[]⟩, .bool hb] TMk (0, 0)) w4)
        have o14 := OX.trans (OX.trans (OX.trans o1 o2) o3) o4
        have HO5 := hid (OX.trans (OX.trans HO.out o14) (OX.of bq))
        have HOW5 := hid (own_off HOW.out (OX.trans o14 (OX.of bq)) (fun b hb e => own_tape (_s := s) HOW.out hXl (by rw [hb, e])))
        have HT5b := hid (t4.below bq)
        have hMw : w.heap.size ≤ w4.heap.size := Nat.le_trans HO.out.size o14.size
        have hMr : wr.heap.size ≤ w4.heap.size := o14.size
        have HOM : Hid (∀ b, u5.ownBlock = some b → b < wr.heap.size) := hid (fun b hb => (World.ownsRow.lt HOW.out b hb).2)
        clear t1 o1 t2 o2 t3 o3 o4 t4 bq o14
        obtain ⟨M, hM⟩ : ∃ M, w4.heap.size = M := ⟨_, rfl⟩
        rw [hM] at HMB hMw hMr
        have hXM : X < M := by omega
        go_wp2_with fail
        refine (HC5.out _ HT5b.out).mono ?_
        rintro e w6 ⟨rfl, t6, o6⟩
        have HMB6 := hid (o6.blk HMB.out (fun e => by omega))
        have HO6 := hid (OX.trans HO5.out o6)
        have HOW6 := hid (own_off HOW5.out o6 (fun b hb e => own_tape (_s := s) HOW5.out hXl (by rw [hb, e])))
        clear o6 HMB HO5 HOW5 HT5b HC1 HCa HCb HCc
        go_wp2_with fail
        refine (HCd.out _ t6).mono ?_
        rintro e w7 ⟨rfl, t7, o7⟩
        have t7' : TL X s r4 w7 := t7
        go_wp2_with fail
        refine (HC6.out _ t7').mono ?_
        rintro e w8 ⟨rfl, t8, o8⟩
        go_wp2_with fail
        refine (HLQ.out _ t8).mono ?_
        rintro e w9 ⟨rfl, b9⟩
        have t9 := t8.below b9
        have o79 := OX.trans (OX.trans o7 o8) (OX.of b9)
        have HMB9 := hid (o79.blk HMB6.out (fun e => by omega))
        have HO9 := hid (OX.trans HO6.out o79)
        have HOW9 := hid (own_off HOW6.out o79 (fun b hb e => own_tape (_s := s) HOW6.out hXl (by rw [hb, e])))
        clear t6 t7 t7' o7 t8 o8 b9 o79 HMB6 HO6 HOW6 HCd HC6 HLQ HC5
        go_wp2_with fail
        refine (HCe.out _ t9).mono ?_
        rintro e w10 ⟨rfl, t10, o10⟩
        have t10' : TL X s r6 w10 := t10
        go_wp2_with fail
        refine (HCf.out _ t10').mono ?_
        rintro e w11 ⟨rfl, t11, o11⟩
        have o911 := OX.trans o10 o11
        have HMB11 := hid (o911.blk HMB9.out (fun e => by omega))
        have HO11 := hid (OX.trans HO9.out o911)
        have HOW11 := hid (own_off HOW9.out o911 (fun b hb e => own_tape (_s := s) HOW9.out hXl (by rw [hb, e])))
        have HT11 := hid t11
        clear t9 t10 t10' o10 t11 o11 o911 HMB9 HO9 HOW9 HCe HCf
        go_wp2
        go_loop [8, 11] (fun s8 i => ∃ k : Nat, k ≤ vl ∧ i = .int .i64 k ∧ ∃ b8 : Bool, s8 = .bool b8 ∧ Hid (b8 = (bt && !((v.take k).contains 60)))) (fun _ i => vl - (RowKit.intOf i).toNat)
        case atStart => exact ⟨0, Nat.zero_le _, rfl, bt, rfl, hid (by rw [List.take_zero]; cases bt <;> rfl)⟩
        case round =>
         obtain ⟨k, hk, rfl, b8, rfl, HB8⟩ := hrel
         by_cases hkl : k < vl
         ·have hkv : k < v.length := by rw [HVL.out]; exact hkl
          have hki : (k : Int) < (vl : Int) := by omega
          have hk0 : (0 : Int) ≤ (k : Int) := by omega
          have hix := HVX.out k hkv
          have HTK := hid (List.take_succ_eq_append_getElem hkv)
          obtain ⟨c, hc⟩ : ∃ c, v[k] = c := ⟨_, rfl⟩
          rw [hc] at hix HTK
          clear hc
          by_cases h60 : c = 60
          ·subst h60
           have hix2 : ∀ W : World, (Instr.index 9 (.string (bs v)) (.int .i64 k)).run Tryz.prog W = .ok (.int .u8 60) W := hix
           have HB9 : Hid (false = (bt && !((v.take (k + 1)).contains 60))) := hid (by rw [HTK.out]; simp)
           clear hix HTK
           cases b8 with
           | true =>
            go_wp2
            go_round
            case rel => exact ⟨k + 1, by omega, by go_num, false, rfl, HB9⟩
            case measure => simp [RowKit.intOf]; omega
           | false =>
            go_wp2
            go_round
            case rel => exact ⟨k + 1, by omega, by go_num, false, rfl, HB9⟩
            case measure => simp [RowKit.intOf]; omega
          ·have h60a : ¬ (c.toNat : Int) = 60 := fun hh => h60 (UInt8.toNat_inj.1 (show c.toNat = 60 by omega))
           have h60b : ((c.toNat : Int) == 60) = false := by simpa using h60a
           have h60c : ((c.toNat : Int) != 60) = true := by simp [h60a]
           have HB9 : Hid (b8 = (bt && !((v.take (k + 1)).contains 60))) := hid (by rw [HB8.out, HTK.out]; have : ¬ (60 : UInt8) = c := fun h => h60 h.symm; simp [this])
           clear h60 HTK HB8
           cases b8 with
           | true =>
            go_wp2
            go_round
            case rel => exact ⟨k + 1, by omega, by go_num, true, rfl, HB9⟩
            case measure => simp [RowKit.intOf]; omega
           | false =>
            go_wp2
            go_round
            case rel => exact ⟨k + 1, by omega, by go_num, false, rfl, HB9⟩
            case measure => simp [RowKit.intOf]; omega
         ·obtain rfl : vl = k := by omega
          have HBF : Hid (b8 = decide (bt = true ∧ (60 : UInt8) ∉ v)) := hid (by
           rw [HB8.out, List.take_of_length_le (by rw [HVL.out]; exact Nat.le_refl _)]
           cases bt <;> simp)
          have hki : ¬ (vl : Int) < (vl : Int) := by omega
          clear HB8
          go_wp2_with fail
          refine (HCl.out _).mono ?_
          rintro e w12 ⟨rfl, b12⟩
          go_wp2_with fail
          refine (HCr.out _).mono ?_
          rintro e w13 ⟨rfl, b13⟩
          have o113 := OX.trans (OX.of (X := X) b12) (OX.of b13)
          have HMB13 := hid (o113.blk HMB11.out (fun e => by omega))
          have HO13 := hid (OX.trans HO11.out o113)
          have HOW13 := hid (own_off HOW11.out o113 (fun b hb e => own_tape (_s := s) HOW11.out hXl (by rw [hb, e])))
          have HT13 := hid ((HT11.out.below b12).below b13)
          clear b12 b13 o113 HMB11 HO11 HOW11 HT11 HCl HCr
          cases b8 with
          | false =>
           have HF : Hid (o = none) := hid (by rw [HQV.out, if_neg (of_decide_eq_false HBF.out.symm)])
           cases rf with
           | none =>
            go_wp2
            go_ret3
            exact TgO.bad HF.out HO13.out
           | some x =>
            go_wp2
            go_ret3
            exact TgO.bad HF.out HO13.out
          | true =>
           have hcd := of_decide_eq_true HBF.out.symm
           cases rf with
           | none =>
            have HF : Hid (o = none) := hid (by rw [HQV.out, if_pos hcd])
            clear hcd
            go_wp2
            go_ret3
            exact TgO.bad HF.out HO13.out
           | some x =>
            have HF : Hid (o = (tagL r7).map fun y => ((ms ++ [(nm, x)]) ++ y.1, y.2)) := hid (by rw [HQV.out, if_pos hcd])
            have hr9 := HR7.out hcd.1
            have hgx : (some x).getD [] = x := rfl
            have p0 := HMB13.out.cell 0
            have p1 := HMB13.out.cell 1
            have p2 := HMB13.out.cell 2
            have p3 := HMB13.out.cell 3
            have f2 := HMB13.out.free 2
            have hoff : OX M w13 (w13.setCell ⟨M, 2, none⟩ (sV x)) := off_set8 _ _ _ _
            have HMB14 : Hid (Blk M (.cells #[sV nm.1, sV nm.2, sV x, .bool hb] TMk (0, 0)) (w13.setCell ⟨M, 2, none⟩ (sV x))) := hid (by simpa using HMB13.out.set 2 (sV x))
            have HOW14 := hid (own_off HOW13.out hoff (fun b hb e => by have := HOM.out b hb; omega))
            have HO14 := hid (OX.new HO13.out hoff hMw)
            have HT14 := hid (HT13.out.off hoff (fun e => by omega))
            clear hcd HQV HBF HMB13 HO13 HOW13 HT13 hoff
            go_upto_region 28 with fail
            generalize w13.setCell ⟨M, 2, none⟩ (sV x) = w14 at *
            clear p0 p1 p2 p3 f2
            have p0 := HMB14.out.cell 0
            have p1 := HMB14.out.cell 1
            have p2 := HMB14.out.cell 2
            have p3 := HMB14.out.cell 3
            have hml9 : ms.length ≤ 1000000 := by have := HL.out; omega
            have hw14 : w.heap.size ≤ w14.heap.size := HO14.out.size
            go_wp2_with (at_builtin; refine appR rfl _ _ 87 TMk 4 56 _ Tryz.underlying87 Tryz.info8Q rfl (by decide) (by decide) rfl w14 w.heap.size u5 ms.length (cQ ms) [sV nm.1, sV nm.2, sV x, .bool hb] rfl mk_one rfl HOW14.out rfl hml9 hw14 ?_)
            intro v' w15 hown hoff2 _
            have HOW15 : Hid (w15.ownsRow w.heap.size TMk 4 v' (ms ++ [(nm, x)]).length (cQ (ms ++ [(nm, x)]))) := hid (by
             rw [cQ_snoc, List.length_append, List.length_singleton]
             have e : fQ (nm, x) = [sV nm.1, sV nm.2, sV x, .bool hb] := by rw [← HHB.out]; rfl
             rw [e]
             exact hown)
            have HO15 := hid (Off.trans HO14.out hoff2 (fun b hb => .inr (World.ownsRow.lt HOW14.out b hb).1))
            have HT15 := hid (HT14.out.off hoff2 (fun hb => by have := (World.ownsRow.lt HOW14.out X hb).1; omega))
            have HA15 := hid HT15.out.at
            clear hown hoff2 p0 p1 p2 p3
            go_wp2
            go_roundw
            case rel => exact ⟨r7, ms ++ [(nm, x)], HT15, HOW15, HO15, HF, hid (by rw [List.length_append, List.length_singleton]; have := HL.out; omega)⟩
            case measure => have h1 := HA15.out; have h2 := HAT.out; have h3 := HN.out; omega
       | none =>
        have HLQ := hid (fun W hW => HLK.out W q5 hW)
        rw [hw4] at HLQ
        cases hw5 : wordL [39] q5 with
        | none =>
         have HF : Hid (o = none) := hid (by rw [HQ.out, HTE2.out, HAE2.out, value_no hw4 hw5]; rfl)
         have HCe := hid (fun W hW => HW5.out W q5 _ hW hw5)
         clear hw4 hw5 HTE2 HQ
         go_wp2_with fail
         refine HC1.out.mono ?_
         rintro e w1 ⟨rfl, t1, o1⟩
         go_wp2_with fail
         refine (HCa.out _ t1).mono ?_
         rintro e w2 ⟨rfl, t2, o2⟩
         go_wp2_with fail
         refine (HCb.out _ t2).mono ?_
         rintro e w3 ⟨rfl, t3, o3⟩
         go_wp2_with fail
         refine (HCc.out _ t3).mono ?_
         rintro e w4 ⟨o4, rfl, t4⟩
         have bq := below_alloc8 w4 (.cells #[sV nm.1, sV nm.2, .string ⟨#[]⟩, .bool hb] TMk (0, 0))
         have HMB := hid (Blk.new (.cells #[sV nm.1, sV nm.2, .string ⟨#[]⟩, .bool hb] TMk (0, 0)) w4)
         have o14 := OX.trans (OX.trans (OX.trans o1 o2) o3) o4
         have HO5 := hid (OX.trans (OX.trans HO.out o14) (OX.of bq))
         have HOW5 := hid (own_off HOW.out (OX.trans o14 (OX.of bq)) (fun b hb e => own_tape (_s := s) HOW.out hXl (by rw [hb, e])))
         have HT5b := hid (t4.below bq)
         have hMw : w.heap.size ≤ w4.heap.size := Nat.le_trans HO.out.size o14.size
         have hMr : wr.heap.size ≤ w4.heap.size := o14.size
         have HOM : Hid (∀ b, u5.ownBlock = some b → b < wr.heap.size) := hid (fun b hb => (World.ownsRow.lt HOW.out b hb).2)
         clear t1 o1 t2 o2 t3 o3 o4 t4 bq o14
         obtain ⟨M, hM⟩ : ∃ M, w4.heap.size = M := ⟨_, rfl⟩
         rw [hM] at HMB hMw hMr
         have hXM : X < M := by omega
         go_wp2_with fail
         refine (HC5.out _ HT5b.out).mono ?_
         rintro e w6 ⟨rfl, t6, o6⟩
         have HMB6 := hid (o6.blk HMB.out (fun e => by omega))
         have HO6 := hid (OX.trans HO5.out o6)
         have HOW6 := hid (own_off HOW5.out o6 (fun b hb e => own_tape (_s := s) HOW5.out hXl (by rw [hb, e])))
         clear o6 HMB HO5 HOW5 HT5b HC1 HCa HCb HCc
         go_wp2_with fail
         refine (HCd.out _ t6).mono ?_
         rintro e w7 ⟨rfl, t7, o7⟩
         have t7' : TL X s r4 w7 := t7
         go_wp2_with fail
         refine (HC6.out _ t7').mono ?_
         rintro e w8 ⟨rfl, t8, o8⟩
         go_wp2_with fail
         refine (HLQ.out _ t8).mono ?_
         rintro e w9 ⟨rfl, b9⟩
         have t9 := t8.below b9
         have o79 := OX.trans (OX.trans o7 o8) (OX.of b9)
         have HMB9 := hid (o79.blk HMB6.out (fun e => by omega))
         have HO9 := hid (OX.trans HO6.out o79)
         have HOW9 := hid (own_off HOW6.out o79 (fun b hb e => own_tape (_s := s) HOW6.out hXl (by rw [hb, e])))
         clear t6 t7 t7' o7 t8 o8 b9 o79 HMB6 HO6 HOW6 HCd HC6 HLQ HC5
         go_wp2_with fail
         refine (HCe.out _ t9).mono ?_
         rintro e w10 ⟨rfl, t10, o10⟩
         have HO10 := hid (OX.trans HO9.out o10)
         clear t9 t10 o10
         go_wp2
         go_ret3
         exact TgO.bad HF.out HO10.out
        | some r6 =>
         have HCe := hid (fun W hW => HW5.out W q5 _ hW hw5)
         have hl6 := word_len hw5
         have HVA : Hid (valueL q5 = match toL [39] r6 with
          | none => none
          | some (v, r') => if (60 : UInt8) ∈ v then none else (refsL (linesL v)).map fun x => (x, r')) := hid (by rw [value_yes hw5]; exact value_q (.inr rfl))
         have HCf := hid (fun W hW => HT5.out W r6 hW)
         have HTL := hid (fun a b h => @to_len [39] r6 a b h)
         obtain ⟨tt, htt⟩ : ∃ x, toL [39] r6 = x := ⟨_, rfl⟩
         rw [htt] at HVA HCf HTL
         clear hw4 hw5 htt
         obtain ⟨v, hv⟩ : ∃ x, (tt.map (·.1)).getD [] = x := ⟨_, rfl⟩
         obtain ⟨bt, hbt⟩ : ∃ x, tt.isSome = x := ⟨_, rfl⟩
         have hvl : v.length ≤ 1000000 := by
          rw [← hv]
          cases htt : tt with
          | none => simp
          | some y => have := HTL.out y.1 y.2 htt; have := HL.out; simp; omega
         obtain ⟨r7, hr7⟩ : ∃ x, (tt.map (·.2)).getD [] = x := ⟨_, rfl⟩
         have HQV : Hid (o = if bt = true ∧ (60 : UInt8) ∉ v then (match refsL (linesL v) with | none => none | some x => (tagL r7).map fun y => ((ms ++ [(nm, x)]) ++ y.1, y.2)) else none) := hid (by
          rw [HQ.out, HTE2.out, HAE2.out, HVA.out, ← hv, ← hbt, ← hr7]
          cases htt : tt with
          | none => simp
          | some y =>
           obtain ⟨a, b⟩ := y
           simp only [Option.map_some, Option.getD_some, Option.isSome_some, true_and]
           by_cases h60 : (60 : UInt8) ∈ a
           ·rw [if_pos h60, if_neg (fun h => h h60)]
            rfl
           ·rw [if_neg h60, if_pos h60]
            cases refsL (linesL a) with
            | none => rfl
            | some x =>
             simp only [Option.map_some, Option.map_map]
             congr 1
             funext y
             simp only [Function.comp, List.append_assoc, List.singleton_append])
         have hr7l : bt = true → r7.length < nq := by
          intro hb
          rw [← hbt] at hb
          rw [← hr7]
          cases htt : tt with
          | none => rw [htt] at hb; cases hb
          | some y => have := HTL.out y.1 y.2 htt; simp only [List.length_cons, List.length_nil] at this hl4 hl6; simp only [Option.map_some, Option.getD_some]; omega
         have HR7 := hid hr7l
         rw [hv, hbt, hr7] at HCf
         have hvl9 := lines_le v
         have HCl := hid (fun W => HLN.out v hvl W)
         have HCr := hid (fun W => HRF.out (linesL v) (by omega) W)
         obtain ⟨vl, hvl2⟩ : ∃ x, v.length = x := ⟨_, rfl⟩
         have HVX := hid (fun (k : Nat) (hk : k < v.length) W => byte_run8 v k _ hk rfl W)
         have HVL := hid hvl2
         have hvz : (bs v).size = vl := by rw [bs_size, hvl2]
         rw [hvl2] at hvl
         obtain ⟨rf, hrf⟩ : ∃ x, refsL (linesL v) = x := ⟨_, rfl⟩
         rw [hrf] at HCr HQV
         clear hv hbt hr7 hr7l hvl9 hvl2 hrf HQ HTE2 HAE2 HVA HTL
         go_wp2_with fail
         refine HC1.out.mono ?_
         rintro e w1 ⟨rfl, t1, o1⟩
         go_wp2_with fail
         refine (HCa.out _ t1).mono ?_
         rintro e w2 ⟨rfl, t2, o2⟩
         go_wp2_with fail
         refine (HCb.out _ t2).mono ?_
         rintro e w3 ⟨rfl, t3, o3⟩
         go_wp2_with fail
         refine (HCc.out _ t3).mono ?_
         rintro e w4 ⟨o4, rfl, t4⟩
         have bq := below_alloc8 w4 (.cells #[sV nm.1, sV nm.2, .string ⟨#[]⟩, .bool hb] TMk (0, 0))
         have HMB := hid (Blk.new (.cells #[sV nm.1, sV nm.2, .string ⟨#[]⟩, .bool hb] TMk (0, 0)) w4)
         have o14 := OX.trans (OX.trans (OX.trans o1 o2) o3) o4
         have HO5 := hid (OX.trans (OX.trans HO.out o14) (OX.of bq))
         have HOW5 := hid (own_off HOW.out (OX.trans o14 (OX.of bq)) (fun b hb e => own_tape (_s := s) HOW.out hXl (by rw [hb, e])))
         have HT5b := hid (t4.below bq)
         have hMw : w.heap.size ≤ w4.heap.size := Nat.le_trans HO.out.size o14.size
         have hMr : wr.heap.size ≤ w4.heap.size := o14.size
         have HOM : Hid (∀ b, u5.ownBlock = some b → b < wr.heap.size) := hid (fun b hb => (World.ownsRow.lt HOW.out b hb).2)
         clear t1 o1 t2 o2 t3 o3 o4 t4 bq o14
         obtain ⟨M, hM⟩ : ∃ M, w4.heap.size = M := ⟨_, rfl⟩
         rw [hM] at HMB hMw hMr
         have hXM : X < M := by omega
         go_wp2_with fail
         refine (HC5.out _ HT5b.out).mono ?_
         rintro e w6 ⟨rfl, t6, o6⟩
         have HMB6 := hid (o6.blk HMB.out (fun e => by omega))
         have HO6 := hid (OX.trans HO5.out o6)
         have HOW6 := hid (own_off HOW5.out o6 (fun b hb e => own_tape (_s := s) HOW5.out hXl (by rw [hb, e])))
         clear o6 HMB HO5 HOW5 HT5b HC1 HCa HCb HCc
         go_wp2_with fail
         refine (HCd.out _ t6).mono ?_
         rintro e w7 ⟨rfl, t7, o7⟩
         have t7' : TL X s r4 w7 := t7
         go_wp2_with fail
         refine (HC6.out _ t7').mono ?_
         rintro e w8 ⟨rfl, t8, o8⟩
         go_wp2_with fail
         refine (HLQ.out _ t8).mono ?_
         rintro e w9 ⟨rfl, b9⟩
         have t9 := t8.below b9
         have o79 := OX.trans (OX.trans o7 o8) (OX.of b9)
         have HMB9 := hid (o79.blk HMB6.out (fun e => by omega))
         have HO9 := hid (OX.trans HO6.out o79)
         have HOW9 := hid (own_off HOW6.out o79 (fun b hb e => own_tape (_s := s) HOW6.out hXl (by rw [hb, e])))
         clear t6 t7 t7' o7 t8 o8 b9 o79 HMB6 HO6 HOW6 HCd HC6 HLQ HC5
         go_wp2_with fail
         refine (HCe.out _ t9).mono ?_
         rintro e w10 ⟨rfl, t10, o10⟩
         have t10' : TL X s r6 w10 := t10
         go_wp2_with fail
         refine (HCf.out _ t10').mono ?_
         rintro e w11 ⟨rfl, t11, o11⟩
         have o911 := OX.trans o10 o11
         have HMB11 := hid (o911.blk HMB9.out (fun e => by omega))
         have HO11 := hid (OX.trans HO9.out o911)
         have HOW11 := hid (own_off HOW9.out o911 (fun b hb e => own_tape (_s := s) HOW9.out hXl (by rw [hb, e])))
         have HT11 := hid t11
         clear t9 t10 t10' o10 t11 o11 o911 HMB9 HO9 HOW9 HCe HCf
         go_wp2
         go_loop [8, 11] (fun s8 i => ∃ k : Nat, k ≤ vl ∧ i = .int .i64 k ∧ ∃ b8 : Bool, s8 = .bool b8 ∧ Hid (b8 = (bt && !((v.take k).contains 60)))) (fun _ i => vl - (RowKit.intOf i).toNat)
         case atStart => exact ⟨0, Nat.zero_le _, rfl, bt, rfl, hid (by rw [List.take_zero]; cases bt <;> rfl)⟩
         case round =>
          obtain ⟨k, hk, rfl, b8, rfl, HB8⟩ := hrel
          by_cases hkl : k < vl
          ·have hkv : k < v.length := by rw [HVL.out]; exact hkl
           have hki : (k : Int) < (vl : Int) := by omega
           have hk0 : (0 : Int) ≤ (k : Int) := by omega
           have hix := HVX.out k hkv
           have HTK := hid (List.take_succ_eq_append_getElem hkv)
           obtain ⟨c, hc⟩ : ∃ c, v[k] = c := ⟨_, rfl⟩
           rw [hc] at hix HTK
           clear hc
           by_cases h60 : c = 60
           ·subst h60
            have hix2 : ∀ W : World, (Instr.index 9 (.string (bs v)) (.int .i64 k)).run Tryz.prog W = .ok (.int .u8 60) W := hix
            have HB9 : Hid (false = (bt && !((v.take (k + 1)).contains 60))) := hid (by rw [HTK.out]; simp)
            clear hix HTK
            cases b8 with
            | true =>
             go_wp2
             go_round
             case rel => exact ⟨k + 1, by omega, by go_num, false, rfl, HB9⟩
             case measure => simp [RowKit.intOf]; omega
            | false =>
             go_wp2
             go_round
             case rel => exact ⟨k + 1, by omega, by go_num, false, rfl, HB9⟩
             case measure => simp [RowKit.intOf]; omega
           ·have h60a : ¬ (c.toNat : Int) = 60 := fun hh => h60 (UInt8.toNat_inj.1 (show c.toNat = 60 by omega))
            have h60b : ((c.toNat : Int) == 60) = false := by simpa using h60a
            have h60c : ((c.toNat : Int) != 60) = true := by simp [h60a]
            have HB9 : Hid (b8 = (bt && !((v.take (k + 1)).contains 60))) := hid (by rw [HB8.out, HTK.out]; have : ¬ (60 : UInt8) = c := fun h => h60 h.symm; simp [this])
            clear h60 HTK HB8
            cases b8 with
            | true =>
             go_wp2
             go_round
             case rel => exact ⟨k + 1, by omega, by go_num, true, rfl, HB9⟩
             case measure => simp [RowKit.intOf]; omega
            | false =>
             go_wp2
             go_round
             case rel => exact ⟨k + 1, by omega, by go_num, false, rfl, HB9⟩
             case measure => simp [RowKit.intOf]; omega
          ·obtain rfl : vl = k := by omega
           have HBF : Hid (b8 = decide (bt = true ∧ (60 : UInt8) ∉ v)) := hid (by
            rw [HB8.out, List.take_of_length_le (by rw [HVL.out]; exact Nat.le_refl _)]
            cases bt <;> simp)
           have hki : ¬ (vl : Int) < (vl : Int) := by omega
           clear HB8
           go_wp2_with fail
           refine (HCl.out _).mono ?_
           rintro e w12 ⟨rfl, b12⟩
           go_wp2_with fail
           refine (HCr.out _).mono ?_
           rintro e w13 ⟨rfl, b13⟩
           have o113 := OX.trans (OX.of (X := X) b12) (OX.of b13)
           have HMB13 := hid (o113.blk HMB11.out (fun e => by omega))
           have HO13 := hid (OX.trans HO11.out o113)
           have HOW13 := hid (own_off HOW11.out o113 (fun b hb e => own_tape (_s := s) HOW11.out hXl (by rw [hb, e])))
           have HT13 := hid ((HT11.out.below b12).below b13)
           clear b12 b13 o113 HMB11 HO11 HOW11 HT11 HCl HCr
           cases b8 with
           | false =>
            have HF : Hid (o = none) := hid (by rw [HQV.out, if_neg (of_decide_eq_false HBF.out.symm)])
            cases rf with
            | none =>
             go_wp2
             go_ret3
             exact TgO.bad HF.out HO13.out
            | some x =>
             go_wp2
             go_ret3
             exact TgO.bad HF.out HO13.out
           | true =>
            have hcd := of_decide_eq_true HBF.out.symm
            cases rf with
            | none =>
             have HF : Hid (o = none) := hid (by rw [HQV.out, if_pos hcd])
             clear hcd
             go_wp2
             go_ret3
             exact TgO.bad HF.out HO13.out
            | some x =>
             have HF : Hid (o = (tagL r7).map fun y => ((ms ++ [(nm, x)]) ++ y.1, y.2)) := hid (by rw [HQV.out, if_pos hcd])
             have hr9 := HR7.out hcd.1
             have hgx : (some x).getD [] = x := rfl
             have p0 := HMB13.out.cell 0
             have p1 := HMB13.out.cell 1
             have p2 := HMB13.out.cell 2
             have p3 := HMB13.out.cell 3
             have f2 := HMB13.out.free 2
             have hoff : OX M w13 (w13.setCell ⟨M, 2, none⟩ (sV x)) := off_set8 _ _ _ _
             have HMB14 : Hid (Blk M (.cells #[sV nm.1, sV nm.2, sV x, .bool hb] TMk (0, 0)) (w13.setCell ⟨M, 2, none⟩ (sV x))) := hid (by simpa using HMB13.out.set 2 (sV x))
             have HOW14 := hid (own_off HOW13.out hoff (fun b hb e => by have := HOM.out b hb; omega))
             have HO14 := hid (OX.new HO13.out hoff hMw)
             have HT14 := hid (HT13.out.off hoff (fun e => by omega))
             clear hcd HQV HBF HMB13 HO13 HOW13 HT13 hoff
             go_upto_region 28 with fail
             generalize w13.setCell ⟨M, 2, none⟩ (sV x) = w14 at *
             clear p0 p1 p2 p3 f2
             have p0 := HMB14.out.cell 0
             have p1 := HMB14.out.cell 1
             have p2 := HMB14.out.cell 2
             have p3 := HMB14.out.cell 3
             have hml9 : ms.length ≤ 1000000 := by have := HL.out; omega
             have hw14 : w.heap.size ≤ w14.heap.size := HO14.out.size
             go_wp2_with (at_builtin; refine appR rfl _ _ 87 TMk 4 56 _ Tryz.underlying87 Tryz.info8Q rfl (by decide) (by decide) rfl w14 w.heap.size u5 ms.length (cQ ms) [sV nm.1, sV nm.2, sV x, .bool hb] rfl mk_one rfl HOW14.out rfl hml9 hw14 ?_)
             intro v' w15 hown hoff2 _
             have HOW15 : Hid (w15.ownsRow w.heap.size TMk 4 v' (ms ++ [(nm, x)]).length (cQ (ms ++ [(nm, x)]))) := hid (by
              rw [cQ_snoc, List.length_append, List.length_singleton]
              have e : fQ (nm, x) = [sV nm.1, sV nm.2, sV x, .bool hb] := by rw [← HHB.out]; rfl
              rw [e]
              exact hown)
             have HO15 := hid (Off.trans HO14.out hoff2 (fun b hb => .inr (World.ownsRow.lt HOW14.out b hb).1))
             have HT15 := hid (HT14.out.off hoff2 (fun hb => by have := (World.ownsRow.lt HOW14.out X hb).1; omega))
             have HA15 := hid HT15.out.at
             clear hown hoff2 p0 p1 p2 p3
             go_wp2
             go_roundw
             case rel => exact ⟨r7, ms ++ [(nm, x)], HT15, HOW15, HO15, HF, hid (by rw [List.length_append, List.length_singleton]; have := HL.out; omega)⟩
             case measure => have h1 := HA15.out; have h2 := HAT.out; have h3 := HN.out; omega
end Go.Proofs.YtklcjimmbkpbdaaGreatDoor
