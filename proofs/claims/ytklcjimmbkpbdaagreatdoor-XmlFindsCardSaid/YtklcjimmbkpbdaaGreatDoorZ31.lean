/-
  The program's document, the scope at first, Parse of XML. Conditions: the library's variable MaxLen holds an int.
-/
import Derived.Test.YtklcjimmbkpbdaaGreatDoorZ30
namespace Go.Proofs.YtklcjimmbkpbdaaGreatDoor
open Go.RowKit
open Go.Lib

theorem around_nil8 : aroundL [] = some [] := by decide
theorem around_le : ∀ (n : Nat) {s r : Bt}, s.length ≤ n → aroundL s = some r → r.length ≤ s.length
  | 0, s, r, hn, h => by
    have : s = [] := List.eq_nil_of_length_eq_zero (by omega)
    subst this
    rw [around_nil8] at h
    injection h with h
    subst h
    exact Nat.le_refl _
  | n + 1, s, r, hn, h => by
    have hb := blanks_le s
    rw [aroundL_eq] at h
    cases ha : asideL (blanksL s) with
    | none => rw [ha] at h; cases h
    | some o =>
      rw [ha] at h
      cases o with
      | none =>
        injection h with h
        subst h
        exact hb
      | some q =>
        have := aside_len ha
        have := around_le n (by omega) h
        omega
theorem EIn.rdr {R S cap d : Nat} {l : XS} {s s' : Bt} {w w' : World} (h : EIn R S cap d l s w) (hr : RS R s' d (ScV S l.length cap) w') (ho : Off (fun b => b = R) w w') (hl : s'.length ≤ s.length) : EIn R S cap d l s' w' :=
  ⟨hr, h.sc.off ho (fun e => h.ne e.symm), h.ml.off ho h.neR, h.neR, h.neS, h.ne, by have := h.len; omega, by have := h.short; omega, h.small, h.deep⟩
theorem EIn.below {R S cap d : Nat} {l : XS} {s : Bt} {w w' : World} (h : EIn R S cap d l s w) (hb : Below w.heap.size w w') : EIn R S cap d l s w' :=
  ⟨h.rd.below hb, h.sc.off (Off.of_below hb) (fun h => h), h.ml.below hb, h.neR, h.neS, h.ne, h.len, h.short, h.small, h.deep⟩
/-- What a document leaves. -/
def DOut (R S : Nat) (w : World) (o : XV × Int) (e : Ending) (w' : World) : Prop :=
  Off (fun b => b = R ∨ b = S) w w' ∧ ∃ x, e = .returned (.tuple #[x, .int .i64 o.2]) ∧ XR w' (fun b => w.heap.size ≤ b ∧ b < w'.heap.size) o.1 x
theorem DOut.bad {R S : Nat} {w w' : World} {o : XV × Int} {k : Int} (h : o = (zeroX, k)) (ho : Off (fun b => b = R ∨ b = S) w w') : DOut R S w o (.returned (.tuple #[zNV, .int .i64 k])) w' := by
  subst h
  exact ⟨ho, _, rfl, xr_zero _ _⟩
set_option maxRecDepth 100000 in
set_option maxHeartbeats 40000000 in
theorem document_any {R S cap : Nat} {s : Bt} {w : World} (hI : EIn R S cap 0 scope0 s w) :
    Calls Tryz.prog 30 #[.pointer (some ⟨R, 0, none⟩)] w (DOut R S w (docX s)) := by
  have hB := below_alloc8 w ZN
  have HB := Lib.hid hB
  obtain ⟨Z, hZe⟩ : ∃ Z, w.heap.size = Z := ⟨_, rfl⟩
  have hZ : Blk Z ZN (w.alloc ZN) := by have := Blk.new ZN w; rwa [hZe] at this
  have HZ := Lib.hid hZ
  have hZw : w.heap.size ≤ Z := Nat.le_of_eq hZe
  have hRl := hI.rd.lt
  have hSl := hI.sc.lt
  have hRZ : R ≠ Z := by omega
  have hZR : Z ≠ R := hRZ.symm
  have HI := Lib.hid (hI.below hB)
  have HA := Lib.hid (around_any (hI.below hB).rd (hI.below hB).ml hI.neR (by have := hI.short; omega))
  have hX : docX s = docX s := rfl
  conv at hX => rhs; unfold docX
  have HX := Lib.hid hX
  have HZE := Lib.hid hZe
  clear hX hI hB hZ
  cases ha : aroundL s with
  | none =>
    have HO : Hid (docX s = (zeroX, 70)) := Lib.hid (by rw [HX.out, ha])
    rw [ha] at HA
    unfold RdO at HA
    clear ha HX
    go_enter Tryz.func30, Tryz.ntmps30
    go_wp2_with (go_at_call 51; (with_reducible refine HA.out.mono ?_); go_loud (rintro e w1 ⟨rfl, hr1, o1⟩); have z1 := o1.blk HZ.out hZR; have HO1 : Hid (Off (fun b => b = R) w w1) := Lib.hid ((Off.ofB HB.out).then o1); have q0 := z1.cell 0; have q1 := z1.cell 1; have q2 := z1.cell 2; have q3 := z1.cell 3; have q4 := z1.cell 4; have qf0 := z1.free 0; have qf1 := z1.free 1; have qf2 := z1.free 2; have qf3 := z1.free 3; have qf4 := z1.free 4; have ql := z1.lt; have HZ1 := Lib.hid z1; clear z1 o1 hr1)
    have hE := (five_set (a := .string ⟨#[]⟩) (b := .string ⟨#[]⟩) (c := .slice none 0 0) (d := .slice none 0 0) (e := .string ⟨#[]⟩) HZ1.out)
    have d0 := hE.cell 0
    have d1 := hE.cell 1
    have d2 := hE.cell 2
    have d3 := hE.cell 3
    have d4 := hE.cell 4
    refine bodyPost_ret (v := .tuple #[zNV, .int .i64 70]) ?_ rfl ?_
    · simp [results, Tryz.results30, go_sem, d0, d1, d2, d3, d4]
    exact DOut.bad HO.out ((((((HO1.out.mono (fun b e => Or.inl e)).new hZw _ _).new hZw _ _).new hZw _ _).new hZw _ _).new hZw _ _)
  | some s1 =>
    have hs1 := around_le _ (Nat.le_refl _) ha
    rw [ha] at HA
    unfold RdO at HA
    cases h2 : wordL [60] s1 with
    | none =>
      have HO : Hid (docX s = (zeroX, 70)) := Lib.hid (by rw [HX.out, ha]; simp only [h2])
      have HT : Hid (∀ W, RS R s1 0 (ScV S scope0.length cap) W → Calls Tryz.prog 52 #[.pointer (some ⟨R, 0, none⟩), .string ⟨#[60]⟩] W (fun e w' => e = .returned (.bool false) ∧ RS R s1 0 (ScV S scope0.length cap) w' ∧ Off (fun b => b = R) W w')) := Lib.hid (fun W hW => take_no hW h2)
      clear ha HX h2
      go_enter Tryz.func30, Tryz.ntmps30
      go_wp2_with (first
        | (go_at_call 51; (with_reducible refine HA.out.mono ?_); go_loud (rintro e w1 ⟨rfl, hr1, o1⟩); have z1 := o1.blk HZ.out hZR; have HO1 : Hid (Off (fun b => b = R) w w1) := Lib.hid ((Off.ofB HB.out).then o1); have HZ1 := Lib.hid z1; have HI1 := Lib.hid (HI.out.rdr (hr1 s1 rfl) o1 hs1); clear z1 o1 hr1)
        | (go_at_call 52; (with_reducible refine (HT.out _ HI1.out.rd).mono ?_); rintro e w2 ⟨rfl, r2, o2⟩; have z2 := o2.blk HZ1.out hZR; have q0 := z2.cell 0; have q1 := z2.cell 1; have q2 := z2.cell 2; have q3 := z2.cell 3; have q4 := z2.cell 4; have qf0 := z2.free 0; have qf1 := z2.free 1; have qf2 := z2.free 2; have qf3 := z2.free 3; have qf4 := z2.free 4; have ql := z2.lt; have HZ2 := Lib.hid z2; have HO2 := Lib.hid (HO1.out.then o2); clear z2 o2 r2))
      have hE := (five_set (a := .string ⟨#[]⟩) (b := .string ⟨#[]⟩) (c := .slice none 0 0) (d := .slice none 0 0) (e := .string ⟨#[]⟩) HZ2.out)
      have d0 := hE.cell 0
      have d1 := hE.cell 1
      have d2 := hE.cell 2
      have d3 := hE.cell 3
      have d4 := hE.cell 4
      refine bodyPost_ret (v := .tuple #[zNV, .int .i64 70]) ?_ rfl ?_
      · simp [results, Tryz.results30, go_sem, d0, d1, d2, d3, d4]
      exact DOut.bad HO.out ((((((HO2.out.mono (fun b e => Or.inl e)).new hZw _ _).new hZw _ _).new hZw _ _).new hZw _ _).new hZw _ _)
    | some s2 =>
      have hs2 := word_len h2
      simp only [List.length_cons, List.length_nil] at hs2
      have HT : Hid (∀ W, RS R s1 0 (ScV S scope0.length cap) W → Calls Tryz.prog 52 #[.pointer (some ⟨R, 0, none⟩), .string ⟨#[60]⟩] W (fun e w' => e = .returned (.bool true) ∧ RS R s2 0 (ScV S scope0.length cap) w' ∧ Off (fun b => b = R) W w')) := Lib.hid (fun W hW => take_yes hW h2)
      have HE := Lib.hid (fun W (hW : EIn R S cap 0 scope0 s2 W) => element_any hW)
      unfold EOut at HE
      have HX2 : Hid (docX s = match elemX 0 scope0 s2 with
          | .error e => (zeroX, e)
          | .ok (v, s3) => match aroundL s3 with
            | none => (zeroX, 70)
            | some r => if r = [] then (v, 0) else (zeroX, 70)) := Lib.hid (by rw [HX.out, ha]; simp only [h2]; cases elemX 0 scope0 s2 <;> rfl)
      clear ha HX h2
      cases he : elemX 0 scope0 s2 with
      | error k =>
        have HO : Hid (docX s = (zeroX, k)) := Lib.hid (by rw [HX2.out, he])
        rw [he] at HE
        simp only at HE
        clear he HX2
        go_enter Tryz.func30, Tryz.ntmps30
        go_wp2_with (first
          | (go_at_call 51; (with_reducible refine HA.out.mono ?_); go_loud (rintro e w1 ⟨rfl, hr1, o1⟩); have z1 := o1.blk HZ.out hZR; have HO1 : Hid (Off (fun b => b = R) w w1) := Lib.hid ((Off.ofB HB.out).then o1); have HZ1 := Lib.hid z1; have HI1 := Lib.hid (HI.out.rdr (hr1 s1 rfl) o1 hs1); clear z1 o1 hr1)
          | (go_at_call 52; (with_reducible refine (HT.out _ HI1.out.rd).mono ?_); rintro e w2 ⟨rfl, r2, o2⟩; have z2 := o2.blk HZ1.out hZR; have HZ2 := Lib.hid z2; have HO2 := Lib.hid (HO1.out.then o2); have HI2 := Lib.hid (HI1.out.rdr r2 o2 (by omega)); clear z2 o2 r2)
          | (go_at_call 53; (with_reducible refine (HE.out _ HI2.out).mono ?_); rintro e w3 ⟨o3, hk, rfl⟩; have z3 := o3.blk HZ2.out (by omega); have q0 := z3.cell 0; have q1 := z3.cell 1; have q2 := z3.cell 2; have q3 := z3.cell 3; have q4 := z3.cell 4; have qf0 := z3.free 0; have qf1 := z3.free 1; have qf2 := z3.free 2; have qf3 := z3.free 3; have qf4 := z3.free 4; have ql := z3.lt; have HZ3 := Lib.hid z3; have HO3 := Lib.hid ((HO2.out.mono (fun b e => Or.inl e) : Off (fun b => b = R ∨ b = S) w w2).then o3); clear z3 o3))
        have hE := (five_set (a := .string ⟨#[]⟩) (b := .string ⟨#[]⟩) (c := .slice none 0 0) (d := .slice none 0 0) (e := .string ⟨#[]⟩) HZ3.out).alloc8 (o' := ZN)
        have d0 := hE.cell 0
        have d1 := hE.cell 1
        have d2 := hE.cell 2
        have d3 := hE.cell 3
        have d4 := hE.cell 4
        refine bodyPost_ret (v := .tuple #[zNV, .int .i64 k]) ?_ rfl ?_
        · simp [results, Tryz.results30, go_sem, d0, d1, d2, d3, d4]
        exact DOut.bad HO.out ((((((HO3.out.new hZw _ _).new hZw _ _).new hZw _ _).new hZw _ _).new hZw _ _).thenB (below_alloc8 _ _))
      | ok y =>
        obtain ⟨v, s3⟩ := y
        have hs3 := elemX_len he
        have HX3 : Hid (docX s = match aroundL s3 with
              | none => (zeroX, 70)
              | some r => if r = [] then (v, 0) else (zeroX, 70)) := Lib.hid (by rw [HX2.out, he])
        rw [he] at HE
        simp only at HE
        clear he HX2
        have HA3 := Lib.hid (fun W (hW : RS R s3 0 (ScV S scope0.length cap) W) (hm : ML W) => around_any hW hm HI.out.neR (by have := HI.out.short; omega))
        unfold RdO at HA3
        cases ha3 : aroundL s3 with
        | none =>
          have HO : Hid (docX s = (zeroX, 70)) := Lib.hid (by rw [HX3.out, ha3])
          rw [ha3] at HA3
          clear ha3 HX3
          go_enter Tryz.func30, Tryz.ntmps30
          go_wp2_with (first
            | (go_at_call 51; (with_reducible refine HA.out.mono ?_); go_loud (rintro e w1 ⟨rfl, hr1, o1⟩); have z1 := o1.blk HZ.out hZR; have HO1 : Hid (Off (fun b => b = R) w w1) := Lib.hid ((Off.ofB HB.out).then o1); have HZ1 := Lib.hid z1; have HI1 := Lib.hid (HI.out.rdr (hr1 s1 rfl) o1 hs1); clear z1 o1 hr1)
            | (go_at_call 52; (with_reducible refine (HT.out _ HI1.out.rd).mono ?_); rintro e w2 ⟨rfl, r2, o2⟩; have z2 := o2.blk HZ1.out hZR; have HZ2 := Lib.hid z2; have HO2 := Lib.hid (HO1.out.then o2); have HI2 := Lib.hid (HI1.out.rdr r2 o2 (by omega)); clear z2 o2 r2)
            | (go_at_call 53; (with_reducible refine (HE.out _ HI2.out).mono ?_); rintro e w3 ⟨o3, r3, k3, x, rfl, hx⟩; obtain ⟨aA, ac, kA, kc, rfl⟩ := xr_one hx; have B3 := below_alloc8 w3 (.cells #[sV v.space, sV v.name, .slice aA v.attrs.length ac, .slice kA v.kids.length kc, sV v.text] TNo (0, 0)); have HZ3 := Lib.hid ((o3.blk HZ2.out (by omega)).alloc8 (o' := .cells #[sV v.space, sV v.name, .slice aA v.attrs.length ac, .slice kA v.kids.length kc, sV v.text] TNo (0, 0))); have HO3 := Lib.hid (((HO2.out.mono (fun b e => Or.inl e) : Off (fun b => b = R ∨ b = S) w w2).then o3).thenB B3); have HR3 := Lib.hid (r3.below B3); have HM3 := Lib.hid ((HI2.out.ml.off o3 (fun e => e.elim HI.out.neR HI.out.neS)).below B3); have HX3v := Lib.hid (XR.below hx B3); have HN3 := Lib.hid (Blk.new (.cells #[sV v.space, sV v.name, .slice aA v.attrs.length ac, .slice kA v.kids.length kc, sV v.text] TNo (0, 0)) w3); have hN2 : Z < w2.heap.size := HZ2.out.lt; have hN3 : Z < w3.heap.size := (o3.blk HZ2.out (by omega)).lt; have hR3 : R < w3.heap.size := r3.lt; have hg3 : w.heap.size ≤ w2.heap.size ∧ w2.heap.size ≤ w3.heap.size := And.intro HO2.out.size o3.size; have HT3 := Lib.hid (fun b (h : w2.heap.size ≤ b ∧ b < w3.heap.size) => (show R < b by have := HO2.out.size; omega)); clear o3 r3 k3 hx B3)
            | (go_at_call 51; (with_reducible refine (HA3.out _ HR3.out HM3.out).mono ?_); rintro e w4 ⟨rfl, hr4, o4⟩; have z4 := o4.blk HZ3.out hZR; have q0 := z4.cell 0; have q1 := z4.cell 1; have q2 := z4.cell 2; have q3 := z4.cell 3; have q4 := z4.cell 4; have qf0 := z4.free 0; have qf1 := z4.free 1; have qf2 := z4.free 2; have qf3 := z4.free 3; have qf4 := z4.free 4; have ql := z4.lt; have HZ4 := Lib.hid z4; have HO4 := Lib.hid (HO3.out.then (o4.mono (fun b e => Or.inl e))); clear z4 o4 hr4))
          have hE := (five_set (a := .string ⟨#[]⟩) (b := .string ⟨#[]⟩) (c := .slice none 0 0) (d := .slice none 0 0) (e := .string ⟨#[]⟩) HZ4.out)
          have d0 := hE.cell 0
          have d1 := hE.cell 1
          have d2 := hE.cell 2
          have d3 := hE.cell 3
          have d4 := hE.cell 4
          refine bodyPost_ret (v := .tuple #[zNV, .int .i64 70]) ?_ rfl ?_
          · simp [results, Tryz.results30, go_sem, d0, d1, d2, d3, d4]
          exact DOut.bad HO.out (((((HO4.out.new hZw _ _).new hZw _ _).new hZw _ _).new hZw _ _).new hZw _ _)
        | some r =>
          rw [ha3] at HA3
          by_cases hr : r = []
          · subst hr
            have HO : Hid (docX s = (v, 0)) := Lib.hid (by rw [HX3.out, ha3]; rfl)
            clear ha3 HX3
            go_enter Tryz.func30, Tryz.ntmps30
            go_wp2_with (first
              | (go_at_call 51; (with_reducible refine HA.out.mono ?_); go_loud (rintro e w1 ⟨rfl, hr1, o1⟩); have z1 := o1.blk HZ.out hZR; have HO1 : Hid (Off (fun b => b = R) w w1) := Lib.hid ((Off.ofB HB.out).then o1); have HZ1 := Lib.hid z1; have HI1 := Lib.hid (HI.out.rdr (hr1 s1 rfl) o1 hs1); clear z1 o1 hr1)
              | (go_at_call 52; (with_reducible refine (HT.out _ HI1.out.rd).mono ?_); rintro e w2 ⟨rfl, r2, o2⟩; have z2 := o2.blk HZ1.out hZR; have HZ2 := Lib.hid z2; have HO2 := Lib.hid (HO1.out.then o2); have HI2 := Lib.hid (HI1.out.rdr r2 o2 (by omega)); clear z2 o2 r2)
              | (go_at_call 53; (with_reducible refine (HE.out _ HI2.out).mono ?_); rintro e w3 ⟨o3, r3, k3, x, rfl, hx⟩; obtain ⟨aA, ac, kA, kc, rfl⟩ := xr_one hx; have B3 := below_alloc8 w3 (.cells #[sV v.space, sV v.name, .slice aA v.attrs.length ac, .slice kA v.kids.length kc, sV v.text] TNo (0, 0)); have HZ3 := Lib.hid ((o3.blk HZ2.out (by omega)).alloc8 (o' := .cells #[sV v.space, sV v.name, .slice aA v.attrs.length ac, .slice kA v.kids.length kc, sV v.text] TNo (0, 0))); have HO3 := Lib.hid (((HO2.out.mono (fun b e => Or.inl e) : Off (fun b => b = R ∨ b = S) w w2).then o3).thenB B3); have HR3 := Lib.hid (r3.below B3); have HM3 := Lib.hid ((HI2.out.ml.off o3 (fun e => e.elim HI.out.neR HI.out.neS)).below B3); have HX3v := Lib.hid (XR.below hx B3); have HN3 := Lib.hid (Blk.new (.cells #[sV v.space, sV v.name, .slice aA v.attrs.length ac, .slice kA v.kids.length kc, sV v.text] TNo (0, 0)) w3); have hN2 : Z < w2.heap.size := HZ2.out.lt; have hN3 : Z < w3.heap.size := (o3.blk HZ2.out (by omega)).lt; have hR3 : R < w3.heap.size := r3.lt; have hg3 : w.heap.size ≤ w2.heap.size ∧ w2.heap.size ≤ w3.heap.size := And.intro HO2.out.size o3.size; have HT3 := Lib.hid (fun b (h : w2.heap.size ≤ b ∧ b < w3.heap.size) => (show R < b by have := HO2.out.size; omega)); clear o3 r3 k3 hx B3)
              | (go_at_call 51; (with_reducible refine (HA3.out _ HR3.out HM3.out).mono ?_); rintro e w4 ⟨rfl, hr4, o4⟩; have r4 := hr4 [] rfl; have rc0 : w4.cell? ⟨R, 0, none⟩ = some (.string ⟨#[]⟩) := r4.c0; have z4 := o4.blk HZ3.out hZR; have q0 := z4.cell 0; have q1 := z4.cell 1; have q2 := z4.cell 2; have q3 := z4.cell 3; have q4 := z4.cell 4; have qf0 := z4.free 0; have qf1 := z4.free 1; have qf2 := z4.free 2; have qf3 := z4.free 3; have qf4 := z4.free 4; have ql := z4.lt; have m4 := o4.blk HN3.out (by omega); have hg4 : w3.heap.size ≤ w4.heap.size := (Nat.le_trans (below_alloc8 w3 (.cells #[sV v.space, sV v.name, .slice aA v.attrs.length ac, .slice kA v.kids.length kc, sV v.text] TNo (0, 0))).size o4.size); have p0 := m4.cell 0; have p1 := m4.cell 1; have p2 := m4.cell 2; have p3 := m4.cell 3; have p4 := m4.cell 4; have pf0 := m4.free 0; have pf1 := m4.free 1; have pf2 := m4.free 2; have pf3 := m4.free 3; have pf4 := m4.free 4; have pl := m4.lt; have HZ4 := Lib.hid z4; have HO4 := Lib.hid (HO3.out.then (o4.mono (fun b e => Or.inl e))); have HX4 := Lib.hid (XR.off o4 (fun b hb e => by have := HT3.out b hb; omega) _ _ HX3v.out); clear z4 o4 hr4 m4 r4))
            have hE := five_set (a := sV v.space) (b := sV v.name) (c := .slice aA v.attrs.length ac) (d := .slice kA v.kids.length kc) (e := sV v.text) HZ4.out
            have d0 := hE.cell 0
            have d1 := hE.cell 1
            have d2 := hE.cell 2
            have d3 := hE.cell 3
            have d4 := hE.cell 4
            have oz := ((((off_set8 w4 Z 0 (sV v.space)).then (off_set8 _ Z 1 (sV v.name))).then (off_set8 _ Z 2 (.slice aA v.attrs.length ac))).then (off_set8 _ Z 3 (.slice kA v.kids.length kc))).then (off_set8 _ Z 4 (sV v.text))
            refine bodyPost_ret (v := .tuple #[.agg #[sV v.space, sV v.name, .slice aA v.attrs.length ac, .slice kA v.kids.length kc, sV v.text], .int .i64 0]) ?_ rfl ?_
            · simp [results, Tryz.results30, go_sem, d0, d1, d2, d3, d4]
            refine ⟨(((((HO4.out.new hZw _ _).new hZw _ _).new hZw _ _).new hZw _ _).new hZw _ _), _, by rw [HO.out], ?_⟩
            rw [HO.out]
            have hs4 := Nat.le_trans hg4 oz.size
            exact XR.mono (fun b hb => ⟨by have := hb.1; omega, Nat.lt_of_lt_of_le hb.2 hs4⟩) _ _ (XR.off oz (fun b hb e => by have := hb.1; omega) _ _ HX4.out)
          · have HO : Hid (docX s = (zeroX, 70)) := Lib.hid (by rw [HX3.out, ha3]; simp only [if_neg hr])
            have hq : ¬ (bs r).toList = [] := by rw [bs_toList]; exact hr
            have hq2 : (bs r).toList.isEmpty = false := by rw [bs_toList]; cases hq : r with | nil => exact absurd hq hr | cons => rfl
            clear ha3 HX3 hr
            go_enter Tryz.func30, Tryz.ntmps30
            go_wp2_with (first
              | (go_at_call 51; (with_reducible refine HA.out.mono ?_); go_loud (rintro e w1 ⟨rfl, hr1, o1⟩); have z1 := o1.blk HZ.out hZR; have HO1 : Hid (Off (fun b => b = R) w w1) := Lib.hid ((Off.ofB HB.out).then o1); have HZ1 := Lib.hid z1; have HI1 := Lib.hid (HI.out.rdr (hr1 s1 rfl) o1 hs1); clear z1 o1 hr1)
              | (go_at_call 52; (with_reducible refine (HT.out _ HI1.out.rd).mono ?_); rintro e w2 ⟨rfl, r2, o2⟩; have z2 := o2.blk HZ1.out hZR; have HZ2 := Lib.hid z2; have HO2 := Lib.hid (HO1.out.then o2); have HI2 := Lib.hid (HI1.out.rdr r2 o2 (by omega)); clear z2 o2 r2)
              | (go_at_call 53; (with_reducible refine (HE.out _ HI2.out).mono ?_); rintro e w3 ⟨o3, r3, k3, x, rfl, hx⟩; obtain ⟨aA, ac, kA, kc, rfl⟩ := xr_one hx; have B3 := below_alloc8 w3 (.cells #[sV v.space, sV v.name, .slice aA v.attrs.length ac, .slice kA v.kids.length kc, sV v.text] TNo (0, 0)); have HZ3 := Lib.hid ((o3.blk HZ2.out (by omega)).alloc8 (o' := .cells #[sV v.space, sV v.name, .slice aA v.attrs.length ac, .slice kA v.kids.length kc, sV v.text] TNo (0, 0))); have HO3 := Lib.hid (((HO2.out.mono (fun b e => Or.inl e) : Off (fun b => b = R ∨ b = S) w w2).then o3).thenB B3); have HR3 := Lib.hid (r3.below B3); have HM3 := Lib.hid ((HI2.out.ml.off o3 (fun e => e.elim HI.out.neR HI.out.neS)).below B3); have HX3v := Lib.hid (XR.below hx B3); have HN3 := Lib.hid (Blk.new (.cells #[sV v.space, sV v.name, .slice aA v.attrs.length ac, .slice kA v.kids.length kc, sV v.text] TNo (0, 0)) w3); have hN2 : Z < w2.heap.size := HZ2.out.lt; have hN3 : Z < w3.heap.size := (o3.blk HZ2.out (by omega)).lt; have hR3 : R < w3.heap.size := r3.lt; have hg3 : w.heap.size ≤ w2.heap.size ∧ w2.heap.size ≤ w3.heap.size := And.intro HO2.out.size o3.size; have HT3 := Lib.hid (fun b (h : w2.heap.size ≤ b ∧ b < w3.heap.size) => (show R < b by have := HO2.out.size; omega)); clear o3 r3 k3 hx B3)
              | (go_at_call 51; (with_reducible refine (HA3.out _ HR3.out HM3.out).mono ?_); rintro e w4 ⟨rfl, hr4, o4⟩; have r4 := hr4 r rfl; have rc0 := r4.c0; have z4 := o4.blk HZ3.out hZR; have q0 := z4.cell 0; have q1 := z4.cell 1; have q2 := z4.cell 2; have q3 := z4.cell 3; have q4 := z4.cell 4; have qf0 := z4.free 0; have qf1 := z4.free 1; have qf2 := z4.free 2; have qf3 := z4.free 3; have qf4 := z4.free 4; have ql := z4.lt; have HZ4 := Lib.hid z4; have HO4 := Lib.hid (HO3.out.then (o4.mono (fun b e => Or.inl e))); clear z4 o4 hr4 r4))
            have hE := (five_set (a := .string ⟨#[]⟩) (b := .string ⟨#[]⟩) (c := .slice none 0 0) (d := .slice none 0 0) (e := .string ⟨#[]⟩) HZ4.out)
            have d0 := hE.cell 0
            have d1 := hE.cell 1
            have d2 := hE.cell 2
            have d3 := hE.cell 3
            have d4 := hE.cell 4
            refine bodyPost_ret (v := .tuple #[zNV, .int .i64 70]) ?_ rfl ?_
            · simp [results, Tryz.results30, go_sem, d0, d1, d2, d3, d4]
            exact DOut.bad HO.out (((((HO4.out.new hZw _ _).new hZw _ _).new hZw _ _).new hZw _ _).new hZw _ _)
set_option maxRecDepth 100000 in
/-- The row of what prefixes stand for at first. -/
theorem scope0_any (w : World) : Calls Tryz.prog 29 #[] w (fun e w' => e = .returned (ScV w.heap.size 2 2) ∧ ScR w.heap.size 2 scope0 w' ∧ Below w.heap.size w w') := by
  have hb := below_alloc8 w (.cells #[.string ⟨#[]⟩, .string ⟨#[]⟩, .string ⟨#[120, 109, 108]⟩, .string ⟨#[104, 116, 116, 112, 58, 47, 47, 119, 119, 119, 46, 119, 51, 46, 111, 114, 103, 47, 88, 77, 76, 47, 49, 57, 57, 56, 47, 110, 97, 109, 101, 115, 112, 97, 99, 101]⟩] TBi (0, 0))
  have HB := Lib.hid hb
  have HN := Lib.hid (Blk.new (.cells #[.string ⟨#[]⟩, .string ⟨#[]⟩, .string ⟨#[120, 109, 108]⟩, .string ⟨#[104, 116, 116, 112, 58, 47, 47, 119, 119, 119, 46, 119, 51, 46, 111, 114, 103, 47, 88, 77, 76, 47, 49, 57, 57, 56, 47, 110, 97, 109, 101, 115, 112, 97, 99, 101]⟩] TBi (0, 0)) w)
  clear hb
  go_enter Tryz.func29, Tryz.ntmps29
  go_wp2
  go_ret
  exact ⟨rfl, ⟨_, HN.out, by decide, by unfold maxLen; omega, rfl, rfl⟩, HB.out⟩
theorem conv_rb8 {w : World} {A : Option Addr} {l : Bs} (c : Nat) (h : RB w A l) : (convert 22 9 (.slice A l.length c)).run Tryz.prog w = .ok (.string (bs l)) w := by
  cases l with
  | nil =>
    cases A with
    | none => exact run_convert_bytes_nil w 22 5 Tryz.underlying22 Tryz.underlying5 0 c 9 Tryz.underlying9
    | some a => exact run_convert_bytes_back w 22 9 5 a c [] Tryz.underlying22 Tryz.underlying5 Tryz.underlying9 (fun j hj => absurd hj (Nat.not_lt_zero _))
  | cons x r =>
    obtain ⟨b, off, rfl, hbl, hcs⟩ := h (by simp)
    refine run_convert_bytes_back w 22 9 5 ⟨b, off, none⟩ c (x :: r) Tryz.underlying22 Tryz.underlying5 Tryz.underlying9 fun j hj => ?_
    rw [Addr.add_mid, hcs j hj]
    simp [bf, List.getD, List.getElem?_eq_getElem hj]
theorem conv_slice8 {w : World} {A : Option Addr} {l : Bs} {n : Nat} (c : Nat) (hn : l.length = n) (h : RB w A l) : (convert 22 9 (.slice A n c)).run Tryz.prog w = .ok (.string (bs l)) w := by
  subst hn
  exact conv_rb8 c h
theorem trim_bom (b : Bt) (W : World) : Calls Tryz.prog 27 #[.string (bs b), .string ⟨#[239, 187, 191]⟩] W (fun e w' => e = .returned (.string (bs (unbomL b))) ∧ W = w') := by
  refine (libTrimPrefix (bs b) (bs bomW) W).mono ?_
  rintro e w' ⟨rfl, rfl⟩
  rw [bs_list, bs_list, (pre_lib bomW b).2]
  have : (wordL bomW b).getD b = unbomL b := by
    unfold wordL unbomL
    split <;> rfl
  rw [this]
  exact ⟨rfl, rfl⟩
theorem below_of_off {w w' : World} (h : Off (fun _ => False) w w') : Below w.heap.size w w' := ⟨h.os, h.tape, h.output, h.size, fun k hk => h.block k hk (fun h => h)⟩
/-- What Parse leaves. -/
def PaO (o : XV × Int) (w : World) (e : Ending) (w' : World) : Prop :=
  Below w.heap.size w w' ∧ ∃ x, e = .returned (.tuple #[x, .int .i64 o.2]) ∧ XR w' (fun b => w.heap.size ≤ b ∧ b < w'.heap.size) o.1 x
theorem PaO.bad {o : XV × Int} {w w' : World} {k : Int} (h : o = (zeroX, k)) (ho : Off (fun _ => False) w w') : PaO o w (.returned (.tuple #[zNV, .int .i64 k])) w' := by
  subst h
  exact ⟨below_of_off ho, _, rfl, xr_zero _ _⟩
theorem ein0 {S : Nat} {s : Bt} {w : World} (hm : ML w) (hs : ScR S 2 scope0 w) (hmS : 0 ≠ S) (hl : s.length ≤ 65536) : EIn w.heap.size S 2 0 scope0 s (w.alloc (.cells #[.string (bs s), .int .i64 0, ScV S 2 2] TRd (0, 0))) := by
  have hb := below_alloc8 w (.cells #[.string (bs s), .int .i64 0, ScV S 2 2] TRd (0, 0))
  have h1 := hs.lt
  have h2 := hm.lt
  have h3 : scope0.length = 2 := rfl
  exact ⟨Blk.new _ w, hs.off (Off.of_below hb) (fun h => h), hm.below hb, by omega, hmS, by omega, by omega, by omega, fun d hd => (by decide : ∀ d ∈ scope0, d.2.length ≤ 100000) d hd, by decide⟩
set_option maxRecDepth 100000 in
set_option maxHeartbeats 40000000 in
theorem parse_any8 {b : Bt} {A : Option Addr} {n c : Nat} {w : World} (hn : b.length = n) (hb : RB w A b) (hm : ML w) :
    Calls Tryz.prog 10 #[.slice A n c] w (PaO (parseX b) w) := by
  have hB := below_alloc8 w ZN
  have HB := Lib.hid hB
  obtain ⟨Z, hZe⟩ : ∃ Z, w.heap.size = Z := ⟨_, rfl⟩
  have hZ : Blk Z ZN (w.alloc ZN) := by have := Blk.new ZN w; rwa [hZe] at this
  have HZ := Lib.hid hZ
  have hZw : w.heap.size ≤ Z := Nat.le_of_eq hZe
  have hO0 : Off (fun _ => False) w (w.alloc ZN) := Off.ofB hB
  by_cases hbig : 65536 < b.length
  · have hbi : (65536 : Int) < (n : Int) := by omega
    have HO : Hid (parseX b = (zeroX, 72)) := Lib.hid (by unfold parseX; rw [if_pos hbig])
    have HO0 := Lib.hid hO0
    clear hb hm hn hB hZ hbig hO0
    go_enter Tryz.func10, Tryz.ntmps10
    go_wp2
    have hE := HZ.out
    have d0 := hE.cell 0
    have d1 := hE.cell 1
    have d2 := hE.cell 2
    have d3 := hE.cell 3
    have d4 := hE.cell 4
    refine bodyPost_ret (v := .tuple #[zNV, .int .i64 72]) ?_ rfl ?_
    · simp [results, Tryz.results10, go_sem, d0, d1, d2, d3, d4]
    exact PaO.bad HO.out HO0.out
  · have hbi : ¬ (65536 : Int) < (n : Int) := by omega
    have hcv := conv_slice8 c hn (hb.below hB)
    have HT := Lib.hid (fun W => trim_bom b W)
    have hul := unbom_len b
    have HP := Lib.hid (fun W => isPlain_any (unbomL b) (by omega) W)
    have hX : parseX b = if plainB (unbomL b) = true then docX (unbomL b) else (zeroX, 70) := by unfold parseX; rw [if_neg hbig]
    have HX := Lib.hid hX
    have HO0 := Lib.hid hO0
    have HM := Lib.hid (hm.below hB)
    have hus : (unbomL b).length ≤ 65536 := by omega
    have HMl := Lib.hid hm.lt
    clear hb hm hn hB hZ hbig hO0 hX hul
    generalize unbomL b = s at *
    cases hp : plainB s with
    | false =>
      have HO : Hid (parseX b = (zeroX, 70)) := Lib.hid (by rw [HX.out, hp]; rfl)
      rw [hp] at HP
      clear HX hp
      go_enter Tryz.func10, Tryz.ntmps10
      go_wp2_with (first
        | (go_at_call 27; (with_reducible refine (HT.out _).mono ?_); rintro e w1 ⟨rfl, rfl⟩)
        | (go_at_call 28; (with_reducible refine (HP.out _).mono ?_); rintro e w2 ⟨rfl, b2⟩; have z2 := (Off.of_below b2).blk HZ.out (fun h => h); have q0 := z2.cell 0; have q1 := z2.cell 1; have q2 := z2.cell 2; have q3 := z2.cell 3; have q4 := z2.cell 4; have qf0 := z2.free 0; have qf1 := z2.free 1; have qf2 := z2.free 2; have qf3 := z2.free 3; have qf4 := z2.free 4; have ql := z2.lt; have HZ2 := Lib.hid z2; have HO2 := Lib.hid (HO0.out.thenB b2); clear z2 b2))
      have hE := five_set (a := .string ⟨#[]⟩) (b := .string ⟨#[]⟩) (c := .slice none 0 0) (d := .slice none 0 0) (e := .string ⟨#[]⟩) HZ2.out
      have d0 := hE.cell 0
      have d1 := hE.cell 1
      have d2 := hE.cell 2
      have d3 := hE.cell 3
      have d4 := hE.cell 4
      refine bodyPost_ret (v := .tuple #[zNV, .int .i64 70]) ?_ rfl ?_
      · simp [results, Tryz.results10, go_sem, d0, d1, d2, d3, d4]
      exact PaO.bad HO.out (((((HO2.out.new hZw _ _).new hZw _ _).new hZw _ _).new hZw _ _).new hZw _ _)
    | true =>
        have HO : Hid (parseX b = docX s) := Lib.hid (by rw [HX.out, hp]; rfl)
        rw [hp] at HP
        clear HX hp
        have HSc := Lib.hid (fun W => scope0_any W)
        have HD := Lib.hid (fun R S W (hW : EIn R S 2 0 scope0 s W) => document_any hW)
        unfold DOut at HD
        obtain ⟨x, hx⟩ : ∃ x, docX s = x := ⟨_, rfl⟩
        rw [hx] at HD HO
        obtain ⟨v, k⟩ := x
        simp only at HD
        clear hx
        go_enter Tryz.func10, Tryz.ntmps10
        go_wp2_with (first
          | (go_at_call 27; (with_reducible refine (HT.out _).mono ?_); rintro e w1 ⟨rfl, rfl⟩)
          | (go_at_call 28; (with_reducible refine (HP.out _).mono ?_); rintro e w2 ⟨rfl, b2⟩; have HZ2 := Lib.hid ((Off.of_below b2).blk HZ.out (fun h => h)); have HO2 := Lib.hid (HO0.out.thenB b2); have HM2 := Lib.hid (HM.out.below b2); clear b2)
          | (go_at_call 29; (with_reducible refine (HSc.out _).mono ?_); rintro e w3 ⟨rfl, sc3, b3⟩; have hl2 := HZ2.out.lt; have hs2 := b3.size; have hl3 := sc3.lt; have HSz := Lib.hid (And.intro hl2 (And.intro hs2 hl3)); obtain ⟨S, hS⟩ : ∃ S, w2.heap.size = S := ⟨_, rfl⟩; rw [hS] at sc3 HSz; have HSC := Lib.hid sc3; have HZ3 := Lib.hid ((Off.of_below b3).blk HZ2.out (fun h => h)); have HO3 := Lib.hid (HO2.out.thenB b3); have HM3 := Lib.hid (HM2.out.below b3); clear b3 hl2 hs2 hl3 sc3)
          | (go_at_call 30; (with_reducible refine (HD.out _ _ _ (ein0 HM3.out HSC.out (by have := HSz.out.1; have := HMl.out; have := hZw; omega) hus)).mono ?_); rintro e w4 ⟨o4, x, rfl, hx⟩; obtain ⟨aA, ac, kA, kc, rfl⟩ := xr_one hx; have z4 := o4.blk (HZ3.out.alloc8 (o' := .cells #[.string (bs s), .int .i64 0, ScV S 2 2] TRd (0, 0))) (fun e => by have := HZ3.out.lt; have := HSz.out.1; omega); have q0 := z4.cell 0; have q1 := z4.cell 1; have q2 := z4.cell 2; have q3 := z4.cell 3; have q4 := z4.cell 4; have qf0 := z4.free 0; have qf1 := z4.free 1; have qf2 := z4.free 2; have qf3 := z4.free 3; have qf4 := z4.free 4; have ql := z4.lt; have HZ4 := Lib.hid z4; have HX4 := Lib.hid hx; have HO4 : Hid (Off (fun _ => False) w w4) := Lib.hid ((HO3.out.thenB (below_alloc8 w3 (.cells #[.string (bs s), .int .i64 0, ScV S 2 2] TRd (0, 0)))).trans o4 (fun b e => Or.inr (e.elim (fun e => by have := HO3.out.size; omega) (fun e => by have := HSz.out.1; omega)))); have HS4 := Lib.hid HO3.out.size; clear o4 z4 hx))
        have hE := five_set (a := sV v.space) (b := sV v.name) (c := .slice aA v.attrs.length ac) (d := .slice kA v.kids.length kc) (e := sV v.text) HZ4.out
        have d0 := hE.cell 0
        have d1 := hE.cell 1
        have d2 := hE.cell 2
        have d3 := hE.cell 3
        have d4 := hE.cell 4
        have oz := ((((off_set8 w4 Z 0 (sV v.space)).then (off_set8 _ Z 1 (sV v.name))).then (off_set8 _ Z 2 (.slice aA v.attrs.length ac))).then (off_set8 _ Z 3 (.slice kA v.kids.length kc))).then (off_set8 _ Z 4 (sV v.text))
        refine bodyPost_ret (v := .tuple #[.agg #[sV v.space, sV v.name, .slice aA v.attrs.length ac, .slice kA v.kids.length kc, sV v.text], .int .i64 k]) ?_ rfl ?_
        · simp [results, Tryz.results10, go_sem, d0, d1, d2, d3, d4]
        refine ⟨below_of_off (((((HO4.out.new hZw _ _).new hZw _ _).new hZw _ _).new hZw _ _).new hZw _ _), _, by rw [HO.out], ?_⟩
        rw [HO.out]
        have hs3 := HS4.out
        have hZ3 := HZ3.out.lt
        exact XR.mono (fun b hb => ⟨by have := hb.1; simp at this; omega, Nat.lt_of_lt_of_le hb.2 oz.size⟩) _ _ (XR.off oz (fun b hb e => by have := hb.1; simp at this; omega) _ _ HX4.out)
end Go.Proofs.YtklcjimmbkpbdaaGreatDoor
