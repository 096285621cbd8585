/-
  The program's reader of XML: the tag that an element begins with. Conditions: texts of modest length; the library's variable MaxLen holds an int.
-/
import Derived.Test.YtklcjimmbkpbdaaGreatDoorZ21
namespace Go.Proofs.YtklcjimmbkpbdaaGreatDoor
open Go.RowKit
open Go.Lib

abbrev TTg : TypeId := 113
theorem four_set {B : Nat} {T : TypeId} {x y z u a b c d : Value} {w : World} (h : Blk B (.cells #[x, y, z, u] T (0, 0)) w) : Blk B (.cells #[a, b, c, d] T (0, 0)) ((((w.setCell ⟨B, 0, none⟩ a).setCell ⟨B, 1, none⟩ b).setCell ⟨B, 2, none⟩ c).setCell ⟨B, 3, none⟩ d) := by
  have := (((h.set 0 a).set 1 b).set 2 c).set 3 d
  simpa using this
/-- A tag as it is read. -/
def tagX (s : Bt) : Option ((XN × List XM × Bool) × Bt) := match markL s with
  | none => none
  | some (nm, s1) => (tagL s1).map fun x => ((nm, x.1, x.2.1), x.2.2)
/-- What the reader of a tag leaves. -/
def TOut (R n : Nat) (sc : Value) (w : World) (o : Option ((XN × List XM × Bool) × Bt)) (e : Ending) (w' : World) : Prop :=
  Off (fun b => b = R) w w' ∧ match o with
  | none => ∃ (x y : Bt) (A : Option Addr) (m c : Nat) (cl : Bool), e = .returned (.tuple #[.agg #[.string (bs x), .string (bs y), .slice A m c, .bool cl], .bool false])
  | some ((nm, ms, cl), r) => RS R r n sc w' ∧ ∃ A c, e = .returned (.tuple #[.agg #[.string (bs nm.1), .string (bs nm.2), .slice A ms.length c, .bool cl], .bool true]) ∧ RC w' (fun b => w.heap.size ≤ b) A (cM ms)
theorem TOut.bad {R n : Nat} {sc : Value} {w w' : World} {o : Option ((XN × List XM × Bool) × Bt)} (h : o = none) (ho : Off (fun b => b = R) w w') : TOut R n sc w o (.returned (.tuple #[.agg #[.string ⟨#[]⟩, .string ⟨#[]⟩, .slice none 0 0, .bool false], .bool false])) w' := by
  subst h
  exact ⟨ho, [], [], none, 0, 0, false, rfl⟩
theorem TOut.good {R n : Nat} {sc : Value} {w w' : World} {o : Option ((XN × List XM × Bool) × Bt)} {nm : XN} {ms : List XM} {cl : Bool} {r : Bt} {A : Option Addr} {c k : Nat} (h : o = some ((nm, ms, cl), r)) (hk : k = ms.length) (hr : RS R r n sc w') (hR : RC w' (fun b => w.heap.size ≤ b) A (cM ms)) (ho : Off (fun b => b = R) w w') :
    TOut R n sc w o (.returned (.tuple #[.agg #[.string (bs nm.1), .string (bs nm.2), .slice A k c, .bool cl], .bool true])) w' := by
  subst h; subst hk
  exact ⟨ho, hr, A, c, rfl, hR⟩
abbrev ZT : Obj := .cells #[.string ⟨#[]⟩, .string ⟨#[]⟩, .slice none 0 0, .bool false] TTg (0, 0)
/-- What stands there after some attributes. -/
structure TSt (R n B V : Nat) (sc : Value) (w : World) (nm : XN) (s1 t : Bt) (ms : List XM) (av : Value) (wr : World) : Prop where
  rd : RS R t n sc wr
  zero : Blk B ZT wr
  var : Blk V (.cells #[.string (bs nm.1), .string (bs nm.2), av, .bool false] TTg (0, 0)) wr
  row : wr.ownsRow w.heap.size TAt 3 av ms.length (cM ms)
  off : Off (fun b => b = R) w wr
  eq : tagL s1 = (tagL t).map fun x => (ms ++ x.1, x.2)
theorem own_apartB {w : World} {B k n b : Nat} {e e' : TypeId} {v : Value} {xs : List Value} {cs : Array Value} (h : w.ownsRow B e k v n xs) (h' : Blk b (.cells cs e' (0, 0)) w) (hne : e ≠ e') : v.ownBlock ≠ some b := by
  intro hb
  obtain ⟨c, hc⟩ := own_kind h hb
  have := hc.symm.trans h'
  injection this with h1
  injection h1 with _ h2
  exact hne h2
section
variable {R n B V : Nat} {sc : Value} {w wr w' : World} {nm : XN} {s1 t t' : Bt} {ms : List XM} {av : Value}
/-- The reader goes on. -/
theorem TSt.go (h : TSt R n B V sc w nm s1 t ms av wr) (hr : RS R t' n sc w') (ho : Off (fun b => b = R) wr w') (hB : B ≠ R) (hV : V ≠ R) (hR : R < w.heap.size) (he : tagL t' = tagL t) : TSt R n B V sc w nm s1 t' ms av w' :=
  ⟨hr, ho.blk h.zero hB, ho.blk h.var hV, own_off h.row ho (fun b hb e => by have := (World.ownsRow.lt h.row b hb).1; omega), h.off.then ho, by rw [he]; exact h.eq⟩
end
set_option maxRecDepth 100000 in
set_option maxHeartbeats 4000000 in
theorem tag_any {R : Nat} {s : Bt} {n : Nat} {sc : Value} {w : World} (h : RS R s n sc w) (hm : ML w) (hR : 0 ≠ R) (hs : s.length ≤ 100000) :
    Calls Tryz.prog 80 #[.pointer (some ⟨R, 0, none⟩)] w (TOut R n sc w (tagX s)) := by
  have HM := Lib.hid hm
  have hlt := h.lt
  have HBl := Lib.hid (below_alloc8 w ZT)
  have H0 := Lib.hid (h.below HBl.out)
  have HQ := Lib.hid (fun W (hW : RS R s n sc W) => qual_any hW (by omega))
  unfold QOut at HQ
  obtain ⟨o, ho⟩ : ∃ o, tagX s = o := ⟨_, rfl⟩
  have HT : Hid (o = match markL s with | none => none | some (nm, s1) => (tagL s1).map fun x => ((nm, x.1, x.2.1), x.2.2)) := Lib.hid ho.symm
  have HL : Hid (∀ m r, markL s = some (m, r) → r.length < s.length) := Lib.hid (fun m r h => mark_len h)
  rw [ho]
  have hBw : w.heap.size ≤ w.heap.size := by omega
  have hBR : w.heap.size ≠ R := by omega
  generalize markL s = mo at *
  clear h hm ho
  cases mo with
  | none =>
    have HO : Hid (o = none) := HT
    go_enter Tryz.func80, Tryz.ntmps80
    go_wp2_with fail
    refine (HQ.out _ H0.out).mono ?_
    rintro e w1 ⟨⟨x, y, rfl, hxy⟩, k1, o1⟩
    have hz1 : Blk w.heap.size ZT w1 := o1.blk (Blk.new _ _) hBR
    have hzl := hz1.lt
    have e0 := hz1.cell 0
    have e1 := hz1.cell 1
    have e2 := hz1.cell 2
    have e3 := hz1.cell 3
    have g0 := hz1.free 0
    have g1 := hz1.free 1
    have g2 := hz1.free 2
    have g3 := hz1.free 3
    have HZ1 := Lib.hid hz1
    have HO1 := Lib.hid ((Off.ofB (F := fun b => b = R) HBl.out).then o1)
    clear hz1
    go_wp2
    have hE := (four_set (a := .string ⟨#[]⟩) (b := .string ⟨#[]⟩) (c := .slice none 0 0) (d := .bool false) HZ1.out).alloc8 (o' := .cells #[.string (bs x), .string (bs y)] TQu)
    have d0 := hE.cell 0
    have d1 := hE.cell 1
    have d2 := hE.cell 2
    have d3 := hE.cell 3
    exact bodyPost_ret (v := .tuple #[.agg #[.string ⟨#[]⟩, .string ⟨#[]⟩, .slice none 0 0, .bool false], .bool false]) (by simp [results, Tryz.results80, go_sem, d0, d1, d2, d3]) rfl (TOut.bad HO.out (((((HO1.out.new hBw _ _).new hBw _ _).new hBw _ _).new hBw _ _).thenB (below_alloc8 _ _)))
  | some mr =>
    obtain ⟨nm, s1⟩ := mr
    have hs1 := HL.out nm s1 rfl
    have HT1 : Hid (o = (tagL s1).map fun x => ((nm, x.1, x.2.1), x.2.2)) := HT
    clear HT HL
    go_enter Tryz.func80, Tryz.ntmps80
    go_wp2_with fail
    refine (HQ.out _ H0.out).mono ?_
    rintro e w1 ⟨⟨x, y, rfl, hxy⟩, k1, o1⟩
    obtain ⟨rfl, rfl⟩ := hxy nm s1 rfl
    have hz1 : Blk w.heap.size ZT w1 := o1.blk (Blk.new _ _) hBR
    have HK1 := Lib.hid (k1 nm s1 rfl)
    have HO1 := Lib.hid ((Off.ofB (F := fun b => b = R) HBl.out).then o1)
    have hsz1 : w.heap.size < w1.heap.size := by have := hz1.lt; omega
    have HB2 := Lib.hid (((Below.refl _ w1).alloc (Nat.le_refl _) (.cells #[.string (bs nm.1), .string (bs nm.2)] TQu (0, 0))).alloc (by simp) (.cells #[.string (bs nm.1), .string (bs nm.2), .slice none 0 0, .bool false] TTg (0, 0)))
    obtain ⟨V, hV⟩ : ∃ V, w1.heap.size + 1 = V := ⟨_, rfl⟩
    have hv1 : Blk V (.cells #[.string (bs nm.1), .string (bs nm.2), .slice none 0 0, .bool false] TTg (0, 0)) ((w1.alloc (.cells #[.string (bs nm.1), .string (bs nm.2)] TQu)).alloc (.cells #[.string (bs nm.1), .string (bs nm.2), .slice none 0 0, .bool false] TTg)) := by
      have := Blk.new (.cells #[.string (bs nm.1), .string (bs nm.2), .slice none 0 0, .bool false] TTg (0, 0)) (w1.alloc (.cells #[.string (bs nm.1), .string (bs nm.2)] TQu (0, 0)))
      rw [← hV]
      simpa using this
    have HS0 : Hid (TSt R n w.heap.size V sc w nm s1 s1 [] (.slice none 0 0) ((w1.alloc (.cells #[.string (bs nm.1), .string (bs nm.2)] TQu)).alloc (.cells #[.string (bs nm.1), .string (bs nm.2), .slice none 0 0, .bool false] TTg))) := Lib.hid
      ⟨HK1.out.below HB2.out, (Off.of_below HB2.out).blk hz1 (fun h => h), hv1, World.ownsRow_nil _ _ _ _, HO1.out.thenB HB2.out, by simp⟩
    have hVR : V ≠ R := by omega
    have hVw : w.heap.size ≤ V := by omega
    have hVB : V ≠ w.heap.size := by omega
    clear hxy k1 hz1 hv1 HK1 HO1 HB2 H0 HBl
    go_wp2
    clear hV
    go_loopw [] (fun wr => ∃ (t : Bt) (ms : List XM) (av : Value), t.length ≤ s1.length ∧ ms.length + t.length ≤ s1.length ∧ Hid (TSt R n w.heap.size V sc w nm s1 t ms av wr)) (fun wr => restOf R wr)
    case atStart => exact ⟨s1, [], _, Nat.le_refl _, by simp, HS0⟩
    case round =>
      clear HS0
      obtain ⟨t, ms, av, htl, hml, HSt⟩ := hrel
      have hbl := blanks_le t
      have HSk := Lib.hid (skip_any HSt.out.rd)
      have HE := Lib.hid (tagL_eq t)
      have HRT := Lib.hid (rest_of HSt.out.rd)
      obtain ⟨u, hu⟩ : ∃ u, blanksL t = u := ⟨_, rfl⟩
      rw [hu] at HSk HE hbl
      obtain ⟨bo, hbo⟩ : ∃ b, decide (u.length < t.length) = b := ⟨_, rfl⟩
      rw [hbo] at HSk
      have HBO := Lib.hid hbo
      clear hu hbo
      cases h1 : wordL [47, 62] u with
      | some r =>
        have HT1' := Lib.hid (fun W (hW : RS R u n sc W) => take_yes hW h1)
        have HTL : Hid (tagL s1 = some (ms, true, r)) := Lib.hid (by rw [HSt.out.eq, HE.out, h1]; simp)
        have HOK : Hid (o = some ((nm, ms, true), r)) := Lib.hid (by rw [HT1.out, HTL.out]; rfl)
        clear h1 HE HTL
        go_wp2_with fail
        refine HSk.out.mono ?_
        rintro e w2 ⟨rfl, k2, o2⟩
        go_wp2_with fail
        refine (HT1'.out _ k2).mono ?_
        rintro e w3 ⟨rfl, k3, o3⟩
        have HK3 := Lib.hid k3
        have HO3 := Lib.hid ((HSt.out.off.then o2).then o3)
        have HR3 := Lib.hid (own_off HSt.out.row (o2.then o3) (fun b hb e => by have := (World.ownsRow.lt HSt.out.row b hb).1; omega))
        clear k2 k3
        have hzw3 : Blk w.heap.size ZT w3 := (o2.then o3).blk HSt.out.zero hBR
        have hvw3 : Blk V (.cells #[.string (bs nm.1), .string (bs nm.2), av, .bool false] TTg (0, 0)) w3 := (o2.then o3).blk HSt.out.var hVR
        have e0 := hzw3.cell 0
        have e1 := hzw3.cell 1
        have e2 := hzw3.cell 2
        have e3 := hzw3.cell 3
        have g0 := hzw3.free 0
        have g1 := hzw3.free 1
        have g2 := hzw3.free 2
        have g3 := hzw3.free 3
        have v0 := hvw3.cell 0
        have v1 := hvw3.cell 1
        have v2 := hvw3.cell 2
        have v3 := hvw3.cell 3
        have k0 := hvw3.free 0
        have k1' := hvw3.free 1
        have k2' := hvw3.free 2
        have k3' := hvw3.free 3
        have HZw3 := Lib.hid hzw3
        have HVw3 := Lib.hid hvw3
        clear hzw3 hvw3
        have HZC : Hid (Blk w.heap.size ZT (w3.setCell ⟨V, 3, none⟩ (.bool true))) := Lib.hid ((off_set8 w3 V 3 (.bool true)).blk HZw3.out (fun e => hVB e.symm))
        have HVC : Hid (Blk V (.cells #[.string (bs nm.1), .string (bs nm.2), av, .bool true] TTg (0, 0)) (w3.setCell ⟨V, 3, none⟩ (.bool true))) := Lib.hid (by have := HVw3.out.set 3 (.bool true); simpa using this)
        have HRC : Hid ((w3.setCell ⟨V, 3, none⟩ (.bool true)).ownsRow w.heap.size TAt 3 av ms.length (cM ms)) := Lib.hid (own_off HR3.out (off_set8 w3 V 3 (.bool true)) (fun b hb e => own_apartB HR3.out HVw3.out (by decide) (by rw [← e]; exact hb)))
        have HKC : Hid (RS R r n sc (w3.setCell ⟨V, 3, none⟩ (.bool true))) := Lib.hid (HK3.out.off (off_set8 _ _ _ _) (fun e => hVR e.symm))
        have HOC : Hid (Off (fun b => b = R) w (w3.setCell ⟨V, 3, none⟩ (.bool true))) := Lib.hid (HO3.out.new hVw _ _)
        clear e0 e1 e2 e3 g0 g1 g2 g3 v0 v1 v2
        have e0 := HZC.out.cell 0
        have e1 := HZC.out.cell 1
        have e2 := HZC.out.cell 2
        have e3 := HZC.out.cell 3
        have g0 := HZC.out.free 0
        have g1 := HZC.out.free 1
        have g2 := HZC.out.free 2
        have g3 := HZC.out.free 3
        have v0 := HVC.out.cell 0
        have v1 := HVC.out.cell 1
        have v2 := HVC.out.cell 2
        have v4 := HVC.out.cell 3
        obtain ⟨A', c', hAe, hcc, _⟩ := RC.of_own HR3.out (fun b => w.heap.size ≤ b) (fun b hb => (World.ownsRow.lt HR3.out b hb).1)
        subst hAe
        go_wp2
        have hE := four_set (a := .string (bs nm.1)) (b := .string (bs nm.2)) (c := .slice A' ms.length c') (d := .bool true) HZC.out
        have d0 := hE.cell 0
        have d1 := hE.cell 1
        have d2 := hE.cell 2
        have d3 := hE.cell 3
        have hoS : ∀ {w1 w2 : World} (j : Nat) (v : Value), w1.ownsRow w.heap.size TAt 3 (.slice A' ms.length c') ms.length (cM ms) → w2 = w1.setCell ⟨w.heap.size, j, none⟩ v → (∀ b, (Value.slice A' ms.length c').ownBlock = some b → b ≠ w.heap.size) → w2.ownsRow w.heap.size TAt 3 (.slice A' ms.length c') ms.length (cM ms) := fun j v h1 h2 h3 => by
          subst h2
          exact own_off h1 (off_set8 _ w.heap.size j v) (fun b hb e => h3 b hb e)
        have hav : ∀ b, (Value.slice A' ms.length c').ownBlock = some b → b ≠ w.heap.size := fun b hb e => own_apartB HRC.out HZC.out (by decide) (by rw [← e]; exact hb)
        have hrow := hoS 3 (.bool true) (hoS 2 (.slice A' ms.length c') (hoS 1 (.string (bs nm.2)) (hoS 0 (.string (bs nm.1)) HRC.out rfl hav) rfl hav) rfl hav) rfl hav
        obtain ⟨A2, c2, hAe, _, hRC⟩ := RC.of_own hrow (fun b => w.heap.size ≤ b) (fun b hb => (World.ownsRow.lt HRC.out b hb).1)
        injection hAe with hA1 _ hA3
        subst hA1; subst hA3
        refine bodyPost_ret (v := .tuple #[.agg #[.string (bs nm.1), .string (bs nm.2), .slice A' ms.length c', .bool true], .bool true]) ?_ rfl ?_
        · simp [results, Tryz.results80, go_sem, d0, d1, d2, d3]
        exact TOut.good HOK.out rfl ((((HKC.out.off (off_set8 _ _ _ _) hBR.symm).off (off_set8 _ _ _ _) hBR.symm).off (off_set8 _ _ _ _) hBR.symm).off (off_set8 _ _ _ _) hBR.symm) hRC ((((HOC.out.new hBw _ _).new hBw _ _).new hBw _ _).new hBw _ _)
      | none =>
        have HT1' := Lib.hid (fun W (hW : RS R u n sc W) => take_no hW h1)
        have HE1 : Hid (tagL t = match wordL [62] u with
          | some r => some ([], false, r)
          | none => if u.length = t.length then none else
            match attrL u with
            | none => none
            | some (m, r) => (tagL r).map fun x => (m :: x.1, x.2)) := Lib.hid (by have := HE.out; rw [h1] at this; exact this)
        clear h1 HE
        cases h2 : wordL [62] u with
        | some r =>
          have HT2' := Lib.hid (fun W (hW : RS R u n sc W) => take_yes hW h2)
          have HTL : Hid (tagL s1 = some (ms, false, r)) := Lib.hid (by rw [HSt.out.eq, HE1.out, h2]; simp)
          have HOK : Hid (o = some ((nm, ms, false), r)) := Lib.hid (by rw [HT1.out, HTL.out]; rfl)
          clear h2 HE1 HTL
          go_wp2_with fail
          refine HSk.out.mono ?_
          rintro e w2 ⟨rfl, k2, o2⟩
          go_wp2_with fail
          refine (HT1'.out _ k2).mono ?_
          rintro e w3 ⟨rfl, k3, o3⟩
          go_wp2_with fail
          refine (HT2'.out _ k3).mono ?_
          rintro e w4 ⟨rfl, k4, o4⟩
          have HK3 := Lib.hid k4
          have HO3 := Lib.hid (((HSt.out.off.then o2).then o3).then o4)
          have HR3 := Lib.hid (own_off HSt.out.row ((o2.then o3).then o4) (fun b hb e => by have := (World.ownsRow.lt HSt.out.row b hb).1; omega))
          clear k2 k3 k4
          have hzw4 : Blk w.heap.size ZT w4 := ((o2.then o3).then o4).blk HSt.out.zero hBR
          have hvw4 : Blk V (.cells #[.string (bs nm.1), .string (bs nm.2), av, .bool false] TTg (0, 0)) w4 := ((o2.then o3).then o4).blk HSt.out.var hVR
          have e0 := hzw4.cell 0
          have e1 := hzw4.cell 1
          have e2 := hzw4.cell 2
          have e3 := hzw4.cell 3
          have g0 := hzw4.free 0
          have g1 := hzw4.free 1
          have g2 := hzw4.free 2
          have g3 := hzw4.free 3
          have v0 := hvw4.cell 0
          have v1 := hvw4.cell 1
          have v2 := hvw4.cell 2
          have v3 := hvw4.cell 3
          have k0 := hvw4.free 0
          have k1' := hvw4.free 1
          have k2' := hvw4.free 2
          have k3' := hvw4.free 3
          have HZw4 := Lib.hid hzw4
          have HVw4 := Lib.hid hvw4
          clear hzw4 hvw4
          have HRC := HR3
          obtain ⟨A', c', hAe, hcc, _⟩ := RC.of_own HR3.out (fun b => w.heap.size ≤ b) (fun b hb => (World.ownsRow.lt HR3.out b hb).1)
          subst hAe
          go_wp2
          have hE := four_set (a := .string (bs nm.1)) (b := .string (bs nm.2)) (c := .slice A' ms.length c') (d := .bool false) HZw4.out
          have d0 := hE.cell 0
          have d1 := hE.cell 1
          have d2 := hE.cell 2
          have d3 := hE.cell 3
          have hoS : ∀ {w1 w2 : World} (j : Nat) (v : Value), w1.ownsRow w.heap.size TAt 3 (.slice A' ms.length c') ms.length (cM ms) → w2 = w1.setCell ⟨w.heap.size, j, none⟩ v → (∀ b, (Value.slice A' ms.length c').ownBlock = some b → b ≠ w.heap.size) → w2.ownsRow w.heap.size TAt 3 (.slice A' ms.length c') ms.length (cM ms) := fun j v h1 h2 h3 => by
            subst h2
            exact own_off h1 (off_set8 _ w.heap.size j v) (fun b hb e => h3 b hb e)
          have hav : ∀ b, (Value.slice A' ms.length c').ownBlock = some b → b ≠ w.heap.size := fun b hb e => own_apartB HR3.out HZw4.out (by decide) (by rw [← e]; exact hb)
          have hrow := hoS 3 (.bool false) (hoS 2 (.slice A' ms.length c') (hoS 1 (.string (bs nm.2)) (hoS 0 (.string (bs nm.1)) HR3.out rfl hav) rfl hav) rfl hav) rfl hav
          obtain ⟨A2, c2, hAe, _, hRC⟩ := RC.of_own hrow (fun b => w.heap.size ≤ b) (fun b hb => (World.ownsRow.lt HR3.out b hb).1)
          injection hAe with hA1 _ hA3
          subst hA1; subst hA3
          refine bodyPost_ret (v := .tuple #[.agg #[.string (bs nm.1), .string (bs nm.2), .slice A' ms.length c', .bool false], .bool true]) ?_ rfl ?_
          · simp [results, Tryz.results80, go_sem, d0, d1, d2, d3]
          exact TOut.good HOK.out rfl ((((HK3.out.off (off_set8 _ _ _ _) hBR.symm).off (off_set8 _ _ _ _) hBR.symm).off (off_set8 _ _ _ _) hBR.symm).off (off_set8 _ _ _ _) hBR.symm) hRC ((((HO3.out.new hBw _ _).new hBw _ _).new hBw _ _).new hBw _ _)
        | none =>
          have HT2' := Lib.hid (fun W (hW : RS R u n sc W) => take_no hW h2)
          have HE2 : Hid (tagL t = if u.length = t.length then none else
            match attrL u with
            | none => none
            | some (m, r) => (tagL r).map fun x => (m :: x.1, x.2)) := Lib.hid (by have := HE1.out; rw [h2] at this; exact this)
          clear h2 HE1
          cases bo with
          | false =>
            have hlen : u.length = t.length := by have := HBO.out; rw [decide_eq_false_iff_not] at this; omega
            have HO : Hid (o = none) := Lib.hid (by rw [HT1.out, HSt.out.eq, HE2.out, if_pos hlen]; rfl)
            clear hlen HE2
            go_wp2_with fail
            refine HSk.out.mono ?_
            rintro e w2 ⟨rfl, k2, o2⟩
            go_wp2_with fail
            refine (HT1'.out _ k2).mono ?_
            rintro e w3 ⟨rfl, k3, o3⟩
            go_wp2_with fail
            refine (HT2'.out _ k3).mono ?_
            rintro e w4 ⟨rfl, k4, o4⟩
            have HK3 := Lib.hid k4
            have HO3 := Lib.hid (((HSt.out.off.then o2).then o3).then o4)
            have HR3 := Lib.hid (own_off HSt.out.row ((o2.then o3).then o4) (fun b hb e => by have := (World.ownsRow.lt HSt.out.row b hb).1; omega))
            clear k2 k3 k4
            have hzw4 : Blk w.heap.size ZT w4 := ((o2.then o3).then o4).blk HSt.out.zero hBR
            have hvw4 : Blk V (.cells #[.string (bs nm.1), .string (bs nm.2), av, .bool false] TTg (0, 0)) w4 := ((o2.then o3).then o4).blk HSt.out.var hVR
            have e0 := hzw4.cell 0
            have e1 := hzw4.cell 1
            have e2 := hzw4.cell 2
            have e3 := hzw4.cell 3
            have g0 := hzw4.free 0
            have g1 := hzw4.free 1
            have g2 := hzw4.free 2
            have g3 := hzw4.free 3
            have v0 := hvw4.cell 0
            have v1 := hvw4.cell 1
            have v2 := hvw4.cell 2
            have v3 := hvw4.cell 3
            have k0 := hvw4.free 0
            have k1' := hvw4.free 1
            have k2' := hvw4.free 2
            have k3' := hvw4.free 3
            have HZw4 := Lib.hid hzw4
            have HVw4 := Lib.hid hvw4
            clear hzw4 hvw4
            go_wp2
            have hE := four_set (a := .string ⟨#[]⟩) (b := .string ⟨#[]⟩) (c := .slice none 0 0) (d := .bool false) HZw4.out
            have d0 := hE.cell 0
            have d1 := hE.cell 1
            have d2 := hE.cell 2
            have d3 := hE.cell 3
            exact bodyPost_ret (v := .tuple #[.agg #[.string ⟨#[]⟩, .string ⟨#[]⟩, .slice none 0 0, .bool false], .bool false]) (by simp [results, Tryz.results80, go_sem, d0, d1, d2, d3]) rfl (TOut.bad HO.out ((((HO3.out.new hBw _ _).new hBw _ _).new hBw _ _).new hBw _ _))
          | true =>
            have hlen : ¬ u.length = t.length := by have := HBO.out; rw [decide_eq_true_eq] at this; omega
            have HE3 : Hid (tagL t = match attrL u with
              | none => none
              | some (m, r) => (tagL r).map fun x => (m :: x.1, x.2)) := Lib.hid (by rw [HE2.out, if_neg hlen])
            have HA := Lib.hid (fun W (hW : RS R u n sc W) (hm : ML W) => attr_any hW hm hR (by omega))
            unfold AOut at HA
            have HLA : Hid (∀ m r, attrL u = some (m, r) → r.length < u.length) := Lib.hid (fun m r h => attr_len h)
            clear HE2 hlen
            generalize attrL u = ao at *
            cases ao with
            | none =>
              have HO : Hid (o = none) := Lib.hid (by rw [HT1.out, HSt.out.eq, HE3.out]; rfl)
              clear HE3 HLA
              go_wp2_with fail
              refine HSk.out.mono ?_
              rintro e w2 ⟨rfl, k2, o2⟩
              go_wp2_with fail
              refine (HT1'.out _ k2).mono ?_
              rintro e w3 ⟨rfl, k3, o3⟩
              go_wp2_with fail
              refine (HT2'.out _ k3).mono ?_
              rintro e w4 ⟨rfl, k4, o4⟩
              go_wp2_with fail
              refine (HA.out _ k4 (HM.out.rd hR (((HSt.out.off.then o2).then o3).then o4))).mono ?_
              rintro e w5 ⟨⟨x, y, z, rfl, hxyz⟩, k5, o5⟩
              have HOX := Lib.hid (((o2.then o3).then o4).then o5)
              have HO3 := Lib.hid (HSt.out.off.then HOX.out)
              have HR3 := Lib.hid (own_off HSt.out.row HOX.out (fun b hb e => by have := (World.ownsRow.lt HSt.out.row b hb).1; omega))
              clear k2 k3 k4
              clear k5 hxyz
              have hzw5 : Blk w.heap.size ZT w5 := HOX.out.blk HSt.out.zero hBR
              have hvw5 : Blk V (.cells #[.string (bs nm.1), .string (bs nm.2), av, .bool false] TTg (0, 0)) w5 := HOX.out.blk HSt.out.var hVR
              have e0 := hzw5.cell 0
              have e1 := hzw5.cell 1
              have e2 := hzw5.cell 2
              have e3 := hzw5.cell 3
              have g0 := hzw5.free 0
              have g1 := hzw5.free 1
              have g2 := hzw5.free 2
              have g3 := hzw5.free 3
              have v0 := hvw5.cell 0
              have v1 := hvw5.cell 1
              have v2 := hvw5.cell 2
              have v3 := hvw5.cell 3
              have k0 := hvw5.free 0
              have k1' := hvw5.free 1
              have k2' := hvw5.free 2
              have k3' := hvw5.free 3
              have HZw5 := Lib.hid hzw5
              have HVw5 := Lib.hid hvw5
              clear hzw5 hvw5
              have hzl := HZw5.out.lt
              go_wp2
              have hE := (four_set (a := .string ⟨#[]⟩) (b := .string ⟨#[]⟩) (c := .slice none 0 0) (d := .bool false) HZw5.out).alloc8 (o' := .cells #[.string (bs x), .string (bs y), .string (bs z)] TAt)
              have d0 := hE.cell 0
              have d1 := hE.cell 1
              have d2 := hE.cell 2
              have d3 := hE.cell 3
              exact bodyPost_ret (v := .tuple #[.agg #[.string ⟨#[]⟩, .string ⟨#[]⟩, .slice none 0 0, .bool false], .bool false]) (by simp [results, Tryz.results80, go_sem, d0, d1, d2, d3]) rfl (TOut.bad HO.out (((((HO3.out.new hBw _ _).new hBw _ _).new hBw _ _).new hBw _ _).thenB (below_alloc8 _ _)))
            | some ar =>
              obtain ⟨m, r⟩ := ar
              have hrl := HLA.out m r rfl
              have HE4 : Hid (tagL t = (tagL r).map fun x => (m :: x.1, x.2)) := HE3
              have HE5 : Hid (tagL s1 = (tagL r).map fun x => ((ms ++ [m]) ++ x.1, x.2)) := Lib.hid (by rw [HSt.out.eq, HE4.out, Option.map_map]; congr 1; funext x; simp)
              clear HE3 HLA HE4
              go_wp2_with fail
              refine HSk.out.mono ?_
              rintro e w2 ⟨rfl, k2, o2⟩
              go_wp2_with fail
              refine (HT1'.out _ k2).mono ?_
              rintro e w3 ⟨rfl, k3, o3⟩
              go_wp2_with fail
              refine (HT2'.out _ k3).mono ?_
              rintro e w4 ⟨rfl, k4, o4⟩
              go_wp2_with fail
              refine (HA.out _ k4 (HM.out.rd hR (((HSt.out.off.then o2).then o3).then o4))).mono ?_
              rintro e w5 ⟨⟨x, y, z, rfl, hxyz⟩, k5, o5⟩
              have HOX := Lib.hid (((o2.then o3).then o4).then o5)
              have HO3 := Lib.hid (HSt.out.off.then HOX.out)
              have HR3 := Lib.hid (own_off HSt.out.row HOX.out (fun b hb e => by have := (World.ownsRow.lt HSt.out.row b hb).1; omega))
              clear k2 k3 k4
              obtain ⟨rfl, rfl, rfl⟩ := hxyz m r rfl
              have HK5 := Lib.hid (k5 m r rfl)
              clear k5 hxyz
              have hzw5 : Blk w.heap.size ZT w5 := HOX.out.blk HSt.out.zero hBR
              have hvw5 : Blk V (.cells #[.string (bs nm.1), .string (bs nm.2), av, .bool false] TTg (0, 0)) w5 := HOX.out.blk HSt.out.var hVR
              have e0 := hzw5.cell 0
              have e1 := hzw5.cell 1
              have e2 := hzw5.cell 2
              have e3 := hzw5.cell 3
              have g0 := hzw5.free 0
              have g1 := hzw5.free 1
              have g2 := hzw5.free 2
              have g3 := hzw5.free 3
              have v0 := hvw5.cell 0
              have v1 := hvw5.cell 1
              have v2 := hvw5.cell 2
              have v3 := hvw5.cell 3
              have k0 := hvw5.free 0
              have k1' := hvw5.free 1
              have k2' := hvw5.free 2
              have k3' := hvw5.free 3
              have HZw5 := Lib.hid hzw5
              have HVw5 := Lib.hid hvw5
              clear hzw5 hvw5
              have hvl := HVw5.out.lt
              have hw5 : w.heap.size ≤ w5.heap.size := HO3.out.size
              obtain ⟨nO, hnO⟩ : ∃ x, ms.length = x := ⟨_, rfl⟩
              have HOW : Hid (w5.ownsRow w.heap.size TAt 3 av nO (cM ms)) := Lib.hid (by rw [← hnO]; exact HR3.out)
              have hnO2 : nO ≤ 1000000 := by rw [← hnO]; omega
              have HNO := Lib.hid hnO
              have HMl := Lib.hid hml
              clear hnO hml
              have hwa : w.heap.size ≤ (w5.alloc (.cells #[.string (bs m.1.1), .string (bs m.1.2), .string (bs m.2)] TAt)).heap.size := by simp; omega
              go_wp2_with (at_builtin; refine appRH rfl _ _ 111 TAt 3 48 _ Tryz.underlying111 Tryz.info8M rfl (by decide) (by decide) rfl (w5.alloc (.cells #[.string (bs m.1.1), .string (bs m.1.2), .string (bs m.2)] TAt)) (w5.heap.size + 1) (by simp) w.heap.size av nO (cM ms) [.string (bs m.1.1), .string (bs m.1.2), .string (bs m.2)] rfl (str3_one _ _ _) rfl (World.ownsRow.alloc HOW.out _) rfl hnO2 hwa ?_)
              intro v' w6 hown hoff _
              obtain ⟨vA, vc, rfl, _, _⟩ := RC.of_own hown (fun _ => True) (fun _ _ => trivial)
              have hoff2 : Off (fun b => av.ownBlock = some b) w5 w6 := (Off.ofB (below_alloc8 w5 (.cells #[.string (bs m.1.1), .string (bs m.1.2), .string (bs m.2)] TAt (0, 0)))).then hoff
              have hv6 : Blk V (.cells #[.string (bs nm.1), .string (bs nm.2), av, .bool false] TTg (0, 0)) w6 := hoff2.blk HVw5.out (fun hb => own_apartB HOW.out HVw5.out (by decide) hb)
              have hz6 : Blk w.heap.size ZT w6 := hoff2.blk HZw5.out (fun hb => own_apartB HOW.out HZw5.out (by decide) hb)
              have hk6 : RS R r n sc w6 := HK5.out.off hoff2 (fun hb => by have := (World.ownsRow.lt HOW.out R hb).1; omega)
              have HO6 := Lib.hid (HO3.out.trans hoff2 (fun b hb => .inr (World.ownsRow.lt HOW.out b hb).1))
              have p2 := hv6.cell 2
              have f2 := hv6.free 2
              have HS7 : Hid (TSt R n w.heap.size V sc w nm s1 r (ms ++ [m]) (.slice vA (nO + 1) vc) (w6.setCell ⟨V, 2, none⟩ (.slice vA (nO + 1) vc))) := Lib.hid
                ⟨hk6.off (off_set8 _ _ _ _) (fun e => hVR e.symm), (off_set8 _ _ _ _).blk hz6 (fun e => hVB e.symm), by have := hv6.set 2 (.slice vA (nO + 1) vc); simpa using this,
                  own_off (by rw [List.length_append, List.length_singleton, cM_snoc, HNO.out]; exact hown) (off_set8 w6 V 2 (.slice vA (nO + 1) vc)) (fun b hb e => own_apartB hown hv6 (by decide) (by rw [← e]; exact hb)), HO6.out.new hVw _ _, HE5.out⟩
              have hnl : (ms ++ [m]).length + r.length ≤ s1.length := by have := HMl.out; rw [List.length_append, List.length_singleton]; omega
              clear hown hoff hoff2 hv6 hz6 hk6
              go_wp2
              go_roundw
              case rel => exact ⟨r, ms ++ [m], .slice vA (nO + 1) vc, by omega, hnl, HS7⟩
              case measure => rw [rest_of HS7.out.rd, HRT.out]; omega
end Go.Proofs.YtklcjimmbkpbdaaGreatDoor
