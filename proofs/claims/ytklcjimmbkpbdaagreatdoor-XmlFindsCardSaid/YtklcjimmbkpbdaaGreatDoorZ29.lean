/-
  Of the proofs of layer 8 (elements of XML): the parts XAn XAp XAq. No conditions.
-/
import Derived.Test.YtklcjimmbkpbdaaGreatDoorZ27
import Derived.Test.YtklcjimmbkpbdaaGreatDoorZ28
namespace Go.Proofs.YtklcjimmbkpbdaaGreatDoor
open Go.RowKit
open Go.Lib

theorem bs_app (a b : Bt) : bs (a ++ b) = bs a ++ bs b := by
  apply ByteArray.ext
  apply Array.ext'
  simp [bs]
set_option maxRecDepth 100000 in
theorem written_any (nm : XN) (w : World) (h1 : nm.1.length ≤ 1000000) (h2 : nm.2.length ≤ 1000000) : Calls Tryz.prog 107 #[.agg #[sV nm.1, sV nm.2]] w (fun e w' => e = .returned (.string (bs (writtenX nm))) ∧ Below w.heap.size w w') := by
  have hB := below_alloc8 w (.cells #[sV nm.1, sV nm.2] TQu (0, 0))
  have HB := Lib.hid hB
  have z1 := bs_size nm.1
  have z2 := bs_size nm.2
  have hX := Blk.new (.cells #[sV nm.1, sV nm.2] TQu (0, 0)) w
  have x0 := hX.cell 0
  have x1 := hX.cell 1
  clear hB hX
  by_cases h0 : nm.1 = []
  · have HE : Hid (writtenX nm = nm.2) := Lib.hid (by unfold writtenX; rw [if_pos h0])
    have hs : (bs nm.1).toList = [] := by rw [bs_toList]; exact h0
    clear h0
    go_enter Tryz.func107, Tryz.ntmps107
    go_wp2
    go_ret
    exact ⟨by rw [HE.out]; rfl, HB.out⟩
  · have HE : Hid (writtenX nm = nm.1 ++ ([58] ++ nm.2)) := Lib.hid (by unfold writtenX; rw [if_neg h0]; rfl)
    have hs : ¬ (bs nm.1).toList = [] := by rw [bs_toList]; exact h0
    have hs2 : (bs nm.1).toList.isEmpty = false := by rw [bs_toList]; cases hq : nm.1 with | nil => exact absurd hq h0 | cons => rfl
    clear h0
    go_enter Tryz.func107, Tryz.ntmps107
    go_wp2
    go_ret
    refine ⟨?_, HB.out⟩
    rw [HE.out, bs_app, bs_app, ← ByteArray.append_assoc]
    rfl
set_option maxRecDepth 100000 in
theorem endOf_any {R : Nat} {s : Bt} {n : Nat} {sc : Value} {w : World} (h : RS R s n sc w) (nm : XN) (A : Option Addr) (m c : Nat) (cl : Bool) (h1 : nm.1.length ≤ 1000000) (h2 : nm.2.length ≤ 1000000) :
    Calls Tryz.prog 83 #[.pointer (some ⟨R, 0, none⟩), .agg #[sV nm.1, sV nm.2, .slice A m c, .bool cl]] w (RdO R n sc w (endX nm s)) := by
  obtain ⟨wX, hwX⟩ : ∃ x, writtenX nm = x := ⟨_, rfl⟩
  have HW := Lib.hid (fun W => written_any nm W h1 h2)
  rw [hwX] at HW
  have hB := below_alloc8 w (.cells #[sV nm.1, sV nm.2, .slice A m c, .bool cl] TTg (0, 0))
  have HB := Lib.hid hB
  have hX := Blk.new (.cells #[sV nm.1, sV nm.2, .slice A m c, .bool cl] TTg (0, 0)) w
  have x0 := hX.cell 0
  have x1 := hX.cell 1
  have x2 := hX.cell 2
  have x3 := hX.cell 3
  have HR := Lib.hid (h.below hB)
  have HE : Hid (endX nm s = match wordL wX s with | none => none | some r => wordL [62] (blanksL r)) := Lib.hid (by unfold endX; rw [hwX]; cases wordL wX s <;> rfl)
  clear hwX h hX hB
  cases hw : wordL wX s with
  | none =>
    have HT := Lib.hid (fun W (hW : RS R s n sc W) => take_no hW hw)
    have HO : Hid (endX nm s = none) := Lib.hid (by rw [HE.out, hw])
    clear hw HE
    go_enter Tryz.func83, Tryz.ntmps83
    go_wp2_with (first
      | (go_at_call 107; (with_reducible refine (HW.out _).mono ?_); rintro e w1 ⟨rfl, b1⟩; have HR1 := Lib.hid (HR.out.below b1); have HO1 := Lib.hid ((Off.ofB (F := fun b => b = R) HB.out).thenB b1); clear b1)
      | (go_at_call 52; (with_reducible refine (HT.out _ HR1.out).mono ?_); rintro e w2 ⟨rfl, _, o2⟩; have HO2 := Lib.hid (HO1.out.then o2); clear o2))
    go_ret
    exact RdO.bad HO.out HO2.out
  | some r =>
    have HT := Lib.hid (fun W (hW : RS R s n sc W) => take_yes hW hw)
    have HK := Lib.hid (fun W (hW : RS R r n sc W) => skip_any hW)
    have HO : Hid (endX nm s = wordL [62] (blanksL r)) := Lib.hid (by rw [HE.out, hw])
    obtain ⟨q, hq⟩ : ∃ q, wordL [62] (blanksL r) = q := ⟨_, rfl⟩
    have HG : Hid (∀ W, RS R (blanksL r) n sc W → Calls Tryz.prog 52 #[.pointer (some ⟨R, 0, none⟩), .string ⟨#[62]⟩] W (fun e w' => e = .returned (.bool q.isSome) ∧ RS R (q.getD (blanksL r)) n sc w' ∧ Off (fun b => b = R) W w')) := Lib.hid (fun W hW => by
      have := take_any hW [62]
      rw [hq] at this
      exact this)
    rw [hq] at HO
    clear hw HE hq
    go_enter Tryz.func83, Tryz.ntmps83
    go_wp2_with (first
      | (go_at_call 107; (with_reducible refine (HW.out _).mono ?_); rintro e w1 ⟨rfl, b1⟩; have HR1 := Lib.hid (HR.out.below b1); have HO1 := Lib.hid ((Off.ofB (F := fun b => b = R) HB.out).thenB b1); clear b1)
      | (go_at_call 52; (with_reducible refine (HT.out _ HR1.out).mono ?_); rintro e w2 ⟨rfl, r2, o2⟩; have HR2 := Lib.hid r2; have HO2 := Lib.hid (HO1.out.then o2); clear o2 r2 HR1)
      | (go_at_call 76; (with_reducible refine (HK.out _ HR2.out).mono ?_); rintro e w3 ⟨rfl, r3, o3⟩; have HR3 := Lib.hid r3; have HO3 := Lib.hid (HO2.out.then o3); clear o3 r3 HR2)
      | (go_at_call 52; (with_reducible refine (HG.out _ HR3.out).mono ?_); rintro e w4 ⟨rfl, r4, o4⟩; have HR4 := Lib.hid r4; have HO4 := Lib.hid (HO3.out.then o4); clear o4 r4))
    go_ret
    refine ⟨by rw [HO.out]; rfl, fun x hx => ?_, HO4.out⟩
    rw [HO.out] at hx
    subst hx
    exact HR4.out
end Go.Proofs.YtklcjimmbkpbdaaGreatDoor
namespace Go.Proofs.YtklcjimmbkpbdaaGreatDoor
open Go.RowKit
open Go.Lib

abbrev zNV : Value := .agg #[.string ⟨#[]⟩, .string ⟨#[]⟩, .slice none 0 0, .slice none 0 0, .string ⟨#[]⟩]
/-- What stands there where an element is read. -/
structure EIn (R S cap d : Nat) (l : XS) (s : Bt) (w : World) : Prop where
  rd : RS R s d (ScV S l.length cap) w
  sc : ScR S cap l w
  ml : ML w
  neR : 0 ≠ R
  neS : 0 ≠ S
  ne : R ≠ S
  len : l.length + s.length ≤ 150000
  short : s.length ≤ 70000
  small : SmallS l
  deep : d ≤ 24
/-- What an element leaves. -/
def EOut (R S cap d : Nat) (l : XS) (w : World) (o : Except Int (XV × Bt)) (e : Ending) (w' : World) : Prop :=
  Off (fun b => b = R ∨ b = S) w w' ∧ match o with
  | .error k => k ≠ 0 ∧ e = .returned (.tuple #[zNV, .int .i64 k])
  | .ok (v, r) => RS R r d (ScV S l.length cap) w' ∧ KeepS S l.length w w' ∧ ∃ x, e = .returned (.tuple #[x, .int .i64 0]) ∧ XR w' (fun b => w.heap.size ≤ b ∧ b < w'.heap.size) v x
def ElemC (n : Nat) : Prop := ∀ (R S cap d : Nat) (l : XS) (s : Bt) (w : World), s.length ≤ n → EIn R S cap d l s w →
  Calls Tryz.prog 53 #[.pointer (some ⟨R, 0, none⟩)] w (EOut R S cap d l w (elemX d l s))
/-- Where the reader, the scope, the content lie. -/
structure PK (R S C : Nat) : Prop where
  mR : 0 ≠ R
  mS : 0 ≠ S
  mC : 0 < C
  rs : R ≠ S
  rc : R < C
  sc : S < C
/-- What stands there where a content is read. -/
structure PSt (R S cap d C : Nat) (l : XS) (s : Bt) (T : Nat → Prop) (kv pv bv : Value) (ks : List XV) (cs : List Value) (t : Bt) (w W : World) : Prop where
  rd : RS R s d (ScV S l.length cap) W
  sc : ScR S cap l W
  ml : ML W
  cn : CSt C T kv pv bv ks cs t W
  off : Off (fun b => b = R ∨ b = S ∨ C ≤ b) w W
  keep : KeepS S l.length w W
section
variable {R S cap d C : Nat} {l : XS} {s s' : Bt} {T : Nat → Prop} {kv pv bv : Value} {ks : List XV} {cs : List Value} {t : Bt} {w W W' : World}
theorem PSt.rdr (h : PSt R S cap d C l s T kv pv bv ks cs t w W) (k : PK R S C) (hr : RS R s' d (ScV S l.length cap) W') (ho : Off (fun b => b = R) W W') : PSt R S cap d C l s' T kv pv bv ks cs t w W' :=
  ⟨hr, h.sc.off ho (fun e => k.rs e.symm), h.ml.rd k.mR ho, h.cn.off ho (fun b e => by rw [e]; exact k.rc), h.off.then (ho.mono (fun b e => .inl e)), h.keep.trans (KeepS.off ho (fun e => k.rs e.symm))⟩
theorem PSt.cont {T' : Nat → Prop} {kv' pv' bv' : Value} {ks' : List XV} {cs' : List Value} {t' : Bt} (h : PSt R S cap d C l s T kv pv bv ks cs t w W) (k : PK R S C) (hr : RS R s' d (ScV S l.length cap) W') (ho : Off (fun b => b = R ∨ C ≤ b) W W') (hc : CSt C T' kv' pv' bv' ks' cs' t' W') : PSt R S cap d C l s' T' kv' pv' bv' ks' cs' t' w W' :=
  ⟨hr, h.sc.off ho (fun e => by rcases e with e | e; exact k.rs e.symm; have := k.sc; omega), h.ml.off ho (fun e => by rcases e with e | e; exact k.mR e; have := k.mC; omega), hc, h.off.then (ho.mono (fun b e => e.elim .inl (fun e => .inr (.inr e)))), h.keep.trans (KeepS.off ho (fun e => by rcases e with e | e; exact k.rs e.symm; have := k.sc; omega))⟩
theorem PSt.elem (h : PSt R S cap d C l s T kv pv bv ks cs t w W) (k : PK R S C) (hr : RS R s' d (ScV S l.length cap) W') (ho : Off (fun b => b = R ∨ b = S) W W') (hk : KeepS S l.length W W') : PSt R S cap d C l s' T kv pv bv ks cs t w W' :=
  ⟨hr, h.sc.keep hk, h.ml.off ho (fun e => by rcases e with e | e; exact k.mR e; exact k.mS e), h.cn.off ho (fun b e => by rcases e with e | e; rw [e]; exact k.rc; rw [e]; exact k.sc), h.off.then (ho.mono (fun b e => e.elim .inl (fun e => .inr (.inl e)))), h.keep.trans hk⟩
theorem PSt.ein (h : PSt R S cap d C l s T kv pv bv ks cs t w W) (k : PK R S C) (h1 : l.length + s.length ≤ 150000) (h2 : s.length ≤ 70000) (h3 : SmallS l) (h4 : d ≤ 24) : EIn R S cap d l s W :=
  ⟨h.rd, h.sc, h.ml, k.mR, k.mS, k.rs, h1, h2, h3, h4⟩
/-- The blocks of what has been read since. -/
theorem CSt.more (h : CSt C T kv pv bv ks cs t W) (h' : CSt C T kv pv bv ks cs t W') : CSt C (fun b => T b ∨ (W.heap.size ≤ b ∧ b < W'.heap.size)) kv pv bv ks cs t W' :=
  ⟨h'.blk, h'.addr, h'.kids, XRs.mono (fun _ h => .inl h) _ _ h'.read, h'.buf, fun b hb => by
    rcases hb with hb | hb
    · exact h'.apart b hb
    · have h1 := h.blk.lt
      exact ⟨by omega, hb.2, fun e => by have := (World.ownsRow.lt h.kids b e).2; omega, fun e => by have := (World.ownsRow.lt h.buf b e).2; omega⟩⟩
end
/-- What a part leaves. -/
def POut (R S cap d C : Nat) (l : XS) (w : World) (o : Except Int (Bt × List XV × Bt)) (e : Ending) (w' : World) : Prop :=
  match o with
  | .error k => k ≠ 0 ∧ e = .returned (.int .i64 k) ∧ Off (fun b => b = R ∨ b = S ∨ C ≤ b) w w'
  | .ok (r, ks, t) => e = .returned (.int .i64 0) ∧ ∃ T kv pv bv cs, PSt R S cap d C l r T kv pv bv ks cs t w w'
theorem POut.bad {R S cap d C : Nat} {l : XS} {w w' : World} {o : Except Int (Bt × List XV × Bt)} {k : Int} (h : o = .error k) (hk : k ≠ 0) (ho : Off (fun b => b = R ∨ b = S ∨ C ≤ b) w w') : POut R S cap d C l w o (.returned (.int .i64 k)) w' := by
  subst h
  exact ⟨hk, rfl, ho⟩
theorem POut.good {R S cap d C : Nat} {l : XS} {w w' : World} {o : Except Int (Bt × List XV × Bt)} {r : Bt} {ks : List XV} {t : Bt} {T : Nat → Prop} {kv pv bv : Value} {cs : List Value} (h : o = .ok (r, ks, t)) (hp : PSt R S cap d C l r T kv pv bv ks cs t w w') : POut R S cap d C l w o (.returned (.int .i64 0)) w' := by
  subst h
  exact ⟨rfl, _, _, _, _, _, hp⟩
set_option maxRecDepth 100000 in
set_option maxHeartbeats 40000000 in
theorem part_any {N : Nat} (hE : ElemC N) {R S cap d C : Nat} {l : XS} {s : Bt} {T : Nat → Prop} {kv pv bv : Value} {ks : List XV} {cs : List Value} {t : Bt} {w w0 : World} (hP : PSt R S cap d C l s T kv pv bv ks cs t w0 w) (hK : PK R S C) (hN : s.length ≤ N + 1)
    (h1 : l.length + s.length ≤ 150000) (h2 : s.length ≤ 70000) (h3 : SmallS l) (h4 : d ≤ 24) (h5 : 2 * ks.length + t.length ≤ 500000) :
    Calls Tryz.prog 105 #[.pointer (some ⟨R, 0, none⟩), .pointer (some ⟨C, 0, none⟩)] w (POut R S cap d C l w0 (partX d l s ks t)) := by
  have HP0 := Lib.hid hP
  have HK := Lib.hid hK
  have hmR := hK.mR
  have hmC := hK.mC
  have hrc := hK.rc
  have hX : partX d l s ks t = partX d l s ks t := rfl
  conv at hX => rhs; unfold partX
  have HX := Lib.hid hX
  have HE := Lib.hid hE
  have HS := Lib.hid h3
  clear hP hK hX hE h3
  cases w1 : wordL [60, 33, 45, 45] s with
  | some r =>
    have hl1 := word_len w1
    simp only [List.length_cons, List.length_nil] at hl1
    have HT1 : Hid (∀ W, RS R s d (ScV S l.length cap) W → Calls Tryz.prog 52 #[.pointer (some ⟨R, 0, none⟩), .string ⟨#[60, 33, 45, 45]⟩] W (fun e w' => e = .returned (.bool true) ∧ RS R r d (ScV S l.length cap) w' ∧ Off (fun b => b = R) W w')) := Lib.hid (fun W hW => take_yes hW w1)
    have HR := Lib.hid (fun W (hW : RS R r d (ScV S l.length cap) W) (hm : ML W) => remark_any hW hm (by omega))
    cases hr : remL r with
    | none =>
      have HO : Hid (partX d l s ks t = .error 70) := Lib.hid (by rw [HX.out]; simp only [w1, hr])
      rw [hr] at HR
      unfold RdO at HR
      clear w1 hr HX
      go_enter Tryz.func105, Tryz.ntmps105
      go_wp2_with (first
        | (go_at_call 52; (with_reducible refine (HT1.out _ HP0.out.rd).mono ?_); rintro e v1 ⟨rfl, r1, o1⟩; have HP1 := Lib.hid (HP0.out.rdr HK.out r1 o1); clear r1 o1 HP0)
        | (go_at_call 77; (with_reducible refine (HR.out _ HP1.out.rd HP1.out.ml).mono ?_); rintro e v9 ⟨rfl, _, o9⟩; have HO9 := Lib.hid (HP1.out.off.then (o9.mono (fun b e => .inl e))); clear o9))
      go_ret
      exact POut.bad HO.out (by decide) HO9.out
    | some q =>
      have HO : Hid (partX d l s ks t = .ok (q, ks, t)) := Lib.hid (by rw [HX.out]; simp only [w1, hr])
      rw [hr] at HR
      unfold RdO at HR
      clear w1 hr HX
      go_enter Tryz.func105, Tryz.ntmps105
      go_wp2_with (first
        | (go_at_call 52; (with_reducible refine (HT1.out _ HP0.out.rd).mono ?_); rintro e v1 ⟨rfl, r1, o1⟩; have HP1 := Lib.hid (HP0.out.rdr HK.out r1 o1); clear r1 o1 HP0)
        | (go_at_call 77; (with_reducible refine (HR.out _ HP1.out.rd HP1.out.ml).mono ?_); rintro e v9 ⟨rfl, r9, o9⟩; have HP9 := Lib.hid (HP1.out.rdr HK.out (r9 q rfl) o9); clear o9 r9))
      go_ret
      exact POut.good HO.out HP9.out
  | none =>
    have HT1 : Hid (∀ W, RS R s d (ScV S l.length cap) W → Calls Tryz.prog 52 #[.pointer (some ⟨R, 0, none⟩), .string ⟨#[60, 33, 45, 45]⟩] W (fun e w' => e = .returned (.bool false) ∧ RS R s d (ScV S l.length cap) w' ∧ Off (fun b => b = R) W w')) := Lib.hid (fun W hW => take_no hW w1)
    cases w2 : wordL [60, 63] s with
    | some r =>
      have hl1 := word_len w2
      simp only [List.length_cons, List.length_nil] at hl1
      have HT2 : Hid (∀ W, RS R s d (ScV S l.length cap) W → Calls Tryz.prog 52 #[.pointer (some ⟨R, 0, none⟩), .string ⟨#[60, 63]⟩] W (fun e w' => e = .returned (.bool true) ∧ RS R r d (ScV S l.length cap) w' ∧ Off (fun b => b = R) W w')) := Lib.hid (fun W hW => take_yes hW w2)
      have HR := Lib.hid (fun W (hW : RS R r d (ScV S l.length cap) W) (hm : ML W) => instr_any hW hm hmR (by omega))
      cases hr : insL r with
      | none =>
        have HO : Hid (partX d l s ks t = .error 70) := Lib.hid (by rw [HX.out]; simp only [w1, w2, hr])
        rw [hr] at HR
        unfold RdO at HR
        clear w1 w2 hr HX
        go_enter Tryz.func105, Tryz.ntmps105
        go_wp2_with (first
          | (go_at_call 52; (with_reducible refine (HT1.out _ HP0.out.rd).mono ?_); rintro e v1 ⟨rfl, r1, o1⟩; have HP1 := Lib.hid (HP0.out.rdr HK.out r1 o1); clear r1 o1 HP0)
          | (go_at_call 52; (with_reducible refine (HT2.out _ HP1.out.rd).mono ?_); rintro e v2 ⟨rfl, r1, o1⟩; have HP2 := Lib.hid (HP1.out.rdr HK.out r1 o1); clear r1 o1 HP1)
          | (go_at_call 78; (with_reducible refine (HR.out _ HP2.out.rd HP2.out.ml).mono ?_); rintro e v9 ⟨rfl, _, o9⟩; have HO9 := Lib.hid (HP2.out.off.then (o9.mono (fun b e => .inl e))); clear o9))
        go_ret
        exact POut.bad HO.out (by decide) HO9.out
      | some q =>
        have HO : Hid (partX d l s ks t = .ok (q, ks, t)) := Lib.hid (by rw [HX.out]; simp only [w1, w2, hr])
        rw [hr] at HR
        unfold RdO at HR
        clear w1 w2 hr HX
        go_enter Tryz.func105, Tryz.ntmps105
        go_wp2_with (first
          | (go_at_call 52; (with_reducible refine (HT1.out _ HP0.out.rd).mono ?_); rintro e v1 ⟨rfl, r1, o1⟩; have HP1 := Lib.hid (HP0.out.rdr HK.out r1 o1); clear r1 o1 HP0)
          | (go_at_call 52; (with_reducible refine (HT2.out _ HP1.out.rd).mono ?_); rintro e v2 ⟨rfl, r1, o1⟩; have HP2 := Lib.hid (HP1.out.rdr HK.out r1 o1); clear r1 o1 HP1)
          | (go_at_call 78; (with_reducible refine (HR.out _ HP2.out.rd HP2.out.ml).mono ?_); rintro e v9 ⟨rfl, r9, o9⟩; have HP9 := Lib.hid (HP2.out.rdr HK.out (r9 q rfl) o9); clear o9 r9))
        go_ret
        exact POut.good HO.out HP9.out
    | none =>
      have HT2 : Hid (∀ W, RS R s d (ScV S l.length cap) W → Calls Tryz.prog 52 #[.pointer (some ⟨R, 0, none⟩), .string ⟨#[60, 63]⟩] W (fun e w' => e = .returned (.bool false) ∧ RS R s d (ScV S l.length cap) w' ∧ Off (fun b => b = R) W w')) := Lib.hid (fun W hW => take_no hW w2)
      cases w3 : wordL cdataW s with
      | some r =>
        have hl1 := word_len w3
        simp only [cdataW, List.length_cons, List.length_nil] at hl1
        have HT3 : Hid (∀ W, RS R s d (ScV S l.length cap) W → Calls Tryz.prog 52 #[.pointer (some ⟨R, 0, none⟩), .string ⟨#[60, 33, 91, 67, 68, 65, 84, 65, 91]⟩] W (fun e w' => e = .returned (.bool true) ∧ RS R r d (ScV S l.length cap) w' ∧ Off (fun b => b = R) W w')) := Lib.hid (fun W hW => take_yes hW w3)
        have HR := Lib.hid (fun W T kv pv bv cs (hW : RS R r d (ScV S l.length cap) W) (hm : ML W) (hc : CSt C T kv pv bv ks cs t W) => data_any hW hm hmR hc hrc hmC (by omega) (by omega))
        cases hr : toL cdendW r with
        | none =>
          have HO : Hid (partX d l s ks t = .error 70) := Lib.hid (by rw [HX.out]; simp only [w1, w2, w3, hr])
          rw [hr] at HR
          unfold CnO at HR
          simp only [Option.map_none] at HR
          clear w1 w2 w3 hr HX
          go_enter Tryz.func105, Tryz.ntmps105
          go_wp2_with (first
            | (go_at_call 52; (with_reducible refine (HT1.out _ HP0.out.rd).mono ?_); rintro e v1 ⟨rfl, r1, o1⟩; have HP1 := Lib.hid (HP0.out.rdr HK.out r1 o1); clear r1 o1 HP0)
            | (go_at_call 52; (with_reducible refine (HT2.out _ HP1.out.rd).mono ?_); rintro e v2 ⟨rfl, r1, o1⟩; have HP2 := Lib.hid (HP1.out.rdr HK.out r1 o1); clear r1 o1 HP1)
            | (go_at_call 52; (with_reducible refine (HT3.out _ HP2.out.rd).mono ?_); rintro e v3 ⟨rfl, r1, o1⟩; have HP3 := Lib.hid (HP2.out.rdr HK.out r1 o1); clear r1 o1 HP2)
            | (go_at_call 122; (with_reducible refine (HR.out _ _ _ _ _ _ HP3.out.rd HP3.out.ml HP3.out.cn).mono ?_); rintro e v9 ⟨o9, rfl⟩; have HO9 := Lib.hid (HP3.out.off.then (o9.mono (fun b e => e.elim .inl (fun e => .inr (.inr e))))); clear o9))
          go_ret
          exact POut.bad HO.out (by decide) HO9.out
        | some q =>
          obtain ⟨a, b⟩ := q
          have HO : Hid (partX d l s ks t = .ok (b, ks, t ++ linesL a)) := Lib.hid (by rw [HX.out]; simp only [w1, w2, w3, hr])
          rw [hr] at HR
          unfold CnO at HR
          simp only [Option.map_some] at HR
          clear w1 w2 w3 hr HX
          go_enter Tryz.func105, Tryz.ntmps105
          go_wp2_with (first
            | (go_at_call 52; (with_reducible refine (HT1.out _ HP0.out.rd).mono ?_); rintro e v1 ⟨rfl, r1, o1⟩; have HP1 := Lib.hid (HP0.out.rdr HK.out r1 o1); clear r1 o1 HP0)
            | (go_at_call 52; (with_reducible refine (HT2.out _ HP1.out.rd).mono ?_); rintro e v2 ⟨rfl, r1, o1⟩; have HP2 := Lib.hid (HP1.out.rdr HK.out r1 o1); clear r1 o1 HP1)
            | (go_at_call 52; (with_reducible refine (HT3.out _ HP2.out.rd).mono ?_); rintro e v3 ⟨rfl, r1, o1⟩; have HP3 := Lib.hid (HP2.out.rdr HK.out r1 o1); clear r1 o1 HP2)
            | (go_at_call 122; (with_reducible refine (HR.out _ _ _ _ _ _ HP3.out.rd HP3.out.ml HP3.out.cn).mono ?_); rintro e v9 ⟨o9, rfl, r9, ⟨pv9, bv9, c9⟩⟩; have HP9 := Lib.hid (HP3.out.cont HK.out r9 o9 c9); clear o9 r9 c9))
          go_ret
          exact POut.good HO.out HP9.out
      | none =>
        have HT3 : Hid (∀ W, RS R s d (ScV S l.length cap) W → Calls Tryz.prog 52 #[.pointer (some ⟨R, 0, none⟩), .string ⟨#[60, 33, 91, 67, 68, 65, 84, 65, 91]⟩] W (fun e w' => e = .returned (.bool false) ∧ RS R s d (ScV S l.length cap) w' ∧ Off (fun b => b = R) W w')) := Lib.hid (fun W hW => take_no hW w3)
        cases w4 : wordL [60] s with
        | some r =>
          have hl1 := word_len w4
          simp only [List.length_cons, List.length_nil] at hl1
          have HT4 : Hid (∀ W, RS R s d (ScV S l.length cap) W → Calls Tryz.prog 52 #[.pointer (some ⟨R, 0, none⟩), .string ⟨#[60]⟩] W (fun e w' => e = .returned (.bool true) ∧ RS R r d (ScV S l.length cap) w' ∧ Off (fun b => b = R) W w')) := Lib.hid (fun W hW => take_yes hW w4)
          have HR := Lib.hid (fun W (hW : EIn R S cap d l r W) => HE.out R S cap d l r W (by omega) hW)
          have hIN := fun W (hW : PSt R S cap d C l r T kv pv bv ks cs t w0 W) => hW.ein HK.out (by omega) (by omega) HS.out h4
          have HIN := Lib.hid hIN
          clear hIN
          cases hr : elemX d l r with
          | error k =>
            have HO : Hid (partX d l s ks t = .error k) := Lib.hid (by rw [HX.out]; simp only [w1, w2, w3, w4, hr])
            rw [hr] at HR
            unfold EOut at HR
            simp only at HR
            clear w1 w2 w3 w4 hr HX
            go_enter Tryz.func105, Tryz.ntmps105
            go_wp2_with (first
              | (go_at_call 52; (with_reducible refine (HT1.out _ HP0.out.rd).mono ?_); rintro e v1 ⟨rfl, r1, o1⟩; have HP1 := Lib.hid (HP0.out.rdr HK.out r1 o1); clear r1 o1 HP0)
              | (go_at_call 52; (with_reducible refine (HT2.out _ HP1.out.rd).mono ?_); rintro e v2 ⟨rfl, r1, o1⟩; have HP2 := Lib.hid (HP1.out.rdr HK.out r1 o1); clear r1 o1 HP1)
              | (go_at_call 52; (with_reducible refine (HT3.out _ HP2.out.rd).mono ?_); rintro e v3 ⟨rfl, r1, o1⟩; have HP3 := Lib.hid (HP2.out.rdr HK.out r1 o1); clear r1 o1 HP2)
              | (go_at_call 52; (with_reducible refine (HT4.out _ HP3.out.rd).mono ?_); rintro e v4 ⟨rfl, r1, o1⟩; have HP4 := Lib.hid (HP3.out.rdr HK.out r1 o1); clear r1 o1 HP3)
              | (go_at_call 53; (with_reducible refine (HR.out _ (HIN.out _ HP4.out)).mono ?_); rintro e v9 ⟨o9, hk, rfl⟩; have HO9 := Lib.hid (HP4.out.off.then (o9.mono (fun b e => e.elim .inl (fun e => .inr (.inl e))))); clear o9))
            go_ret
            exact POut.bad HO.out hk (HO9.out.thenB (below_alloc8 _ _))
          | ok y =>
            obtain ⟨v, b⟩ := y
            have HO : Hid (partX d l s ks t = .ok (b, allX ks t ++ [v], [])) := Lib.hid (by rw [HX.out]; simp only [w1, w2, w3, w4, hr])
            rw [hr] at HR
            unfold EOut at HR
            simp only at HR
            have HA := Lib.hid (fun W T kv pv bv cs x (hW : CSt C T kv pv bv ks cs t W) (hx : XR W T v x) => add_any hW hx (by omega))
            clear w1 w2 w3 w4 hr HX
            go_enter Tryz.func105, Tryz.ntmps105
            go_wp2_with (first
              | (go_at_call 52; (with_reducible refine (HT1.out _ HP0.out.rd).mono ?_); rintro e v1 ⟨rfl, r1, o1⟩; have HP1 := Lib.hid (HP0.out.rdr HK.out r1 o1); clear r1 o1 HP0)
              | (go_at_call 52; (with_reducible refine (HT2.out _ HP1.out.rd).mono ?_); rintro e v2 ⟨rfl, r1, o1⟩; have HP2 := Lib.hid (HP1.out.rdr HK.out r1 o1); clear r1 o1 HP1)
              | (go_at_call 52; (with_reducible refine (HT3.out _ HP2.out.rd).mono ?_); rintro e v3 ⟨rfl, r1, o1⟩; have HP3 := Lib.hid (HP2.out.rdr HK.out r1 o1); clear r1 o1 HP2)
              | (go_at_call 52; (with_reducible refine (HT4.out _ HP3.out.rd).mono ?_); rintro e v4 ⟨rfl, r1, o1⟩; have HP4 := Lib.hid (HP3.out.rdr HK.out r1 o1); clear r1 o1 HP3)
              | (go_at_call 53; (with_reducible refine (HR.out _ (HIN.out _ HP4.out)).mono ?_); rintro e v9 ⟨o9, r9, k9, x, rfl, hx⟩; obtain ⟨aA, ac, kA, kc, rfl⟩ := xr_one hx; have HP5 := Lib.hid (HP4.out.elem HK.out r9 o9 k9); have HC5 := Lib.hid (HP4.out.cn.more HP5.out.cn); have HX5 := Lib.hid (XR.mono (fun _ h => Or.inr h) _ _ hx : XR v9 (fun b => T b ∨ _) v _); clear o9 r9 k9 hx HP4)
              | (go_at_call 123; (with_reducible refine (HA.out _ _ _ _ _ _ _ (HC5.out.below (below_alloc8 _ _)) (XR.below HX5.out (below_alloc8 _ _))).mono ?_); rintro e v10 ⟨kv9, pv9, bv9, cs9, rfl, c9, o9⟩; have r9 := (HP5.out.rd.below (below_alloc8 _ _)).off o9 (fun e => by omega); have o10 := (Off.ofB (F := fun b => b = R ∨ C ≤ b) (below_alloc8 v9 _)).then (o9.mono (fun b e => .inr e)); have HP9 := Lib.hid (HP5.out.cont HK.out r9 o10 c9); clear o9 r9 c9 o10))
            go_ret
            exact POut.good HO.out HP9.out
        | none =>
          have HT4 : Hid (∀ W, RS R s d (ScV S l.length cap) W → Calls Tryz.prog 52 #[.pointer (some ⟨R, 0, none⟩), .string ⟨#[60]⟩] W (fun e w' => e = .returned (.bool false) ∧ RS R s d (ScV S l.length cap) w' ∧ Off (fun b => b = R) W w')) := Lib.hid (fun W hW => take_no hW w4)
          have HR := Lib.hid (fun W T kv pv bv cs (hW : RS R s d (ScV S l.length cap) W) (hm : ML W) (hc : CSt C T kv pv bv ks cs t W) => text_any8 hW hm hc hrc (by omega) (by omega))
          cases hr : textL s with
          | none =>
            have HO : Hid (partX d l s ks t = .error 70) := Lib.hid (by rw [HX.out]; simp only [w1, w2, w3, w4, hr])
            rw [hr] at HR
            unfold CnO at HR
            skip
            clear w1 w2 w3 w4 hr HX
            go_enter Tryz.func105, Tryz.ntmps105
            go_wp2_with (first
              | (go_at_call 52; (with_reducible refine (HT1.out _ HP0.out.rd).mono ?_); rintro e v1 ⟨rfl, r1, o1⟩; have HP1 := Lib.hid (HP0.out.rdr HK.out r1 o1); clear r1 o1 HP0)
              | (go_at_call 52; (with_reducible refine (HT2.out _ HP1.out.rd).mono ?_); rintro e v2 ⟨rfl, r1, o1⟩; have HP2 := Lib.hid (HP1.out.rdr HK.out r1 o1); clear r1 o1 HP1)
              | (go_at_call 52; (with_reducible refine (HT3.out _ HP2.out.rd).mono ?_); rintro e v3 ⟨rfl, r1, o1⟩; have HP3 := Lib.hid (HP2.out.rdr HK.out r1 o1); clear r1 o1 HP2)
              | (go_at_call 52; (with_reducible refine (HT4.out _ HP3.out.rd).mono ?_); rintro e v4 ⟨rfl, r1, o1⟩; have HP4 := Lib.hid (HP3.out.rdr HK.out r1 o1); clear r1 o1 HP3)
              | (go_at_call 124; (with_reducible refine (HR.out _ _ _ _ _ _ HP4.out.rd HP4.out.ml HP4.out.cn).mono ?_); rintro e v9 ⟨o9, rfl⟩; have HO9 := Lib.hid (HP4.out.off.then (o9.mono (fun b e => e.elim .inl (fun e => .inr (.inr e))))); clear o9))
            go_ret
            exact POut.bad HO.out (by decide) HO9.out
          | some q =>
            obtain ⟨a, b⟩ := q
            have HO : Hid (partX d l s ks t = .ok (b, ks, t ++ a)) := Lib.hid (by rw [HX.out]; simp only [w1, w2, w3, w4, hr])
            rw [hr] at HR
            unfold CnO at HR
            skip
            clear w1 w2 w3 w4 hr HX
            go_enter Tryz.func105, Tryz.ntmps105
            go_wp2_with (first
              | (go_at_call 52; (with_reducible refine (HT1.out _ HP0.out.rd).mono ?_); rintro e v1 ⟨rfl, r1, o1⟩; have HP1 := Lib.hid (HP0.out.rdr HK.out r1 o1); clear r1 o1 HP0)
              | (go_at_call 52; (with_reducible refine (HT2.out _ HP1.out.rd).mono ?_); rintro e v2 ⟨rfl, r1, o1⟩; have HP2 := Lib.hid (HP1.out.rdr HK.out r1 o1); clear r1 o1 HP1)
              | (go_at_call 52; (with_reducible refine (HT3.out _ HP2.out.rd).mono ?_); rintro e v3 ⟨rfl, r1, o1⟩; have HP3 := Lib.hid (HP2.out.rdr HK.out r1 o1); clear r1 o1 HP2)
              | (go_at_call 52; (with_reducible refine (HT4.out _ HP3.out.rd).mono ?_); rintro e v4 ⟨rfl, r1, o1⟩; have HP4 := Lib.hid (HP3.out.rdr HK.out r1 o1); clear r1 o1 HP3)
              | (go_at_call 124; (with_reducible refine (HR.out _ _ _ _ _ _ HP4.out.rd HP4.out.ml HP4.out.cn).mono ?_); rintro e v9 ⟨o9, rfl, r9, ⟨pv9, bv9, c9⟩⟩; have HP9 := Lib.hid (HP4.out.cont HK.out r9 o9 c9); clear o9 r9 c9))
            go_ret
            exact POut.good HO.out HP9.out
end Go.Proofs.YtklcjimmbkpbdaaGreatDoor
namespace Go.Proofs.YtklcjimmbkpbdaaGreatDoor
open Go.RowKit
open Go.Lib

/-- What a content leaves. -/
def KOut (R S cap d : Nat) (l : XS) (w : World) (o : Except Int (List XV × Bt)) (e : Ending) (w' : World) : Prop :=
  Off (fun b => b = R ∨ b = S) w w' ∧ match o with
  | .error k => k ≠ 0 ∧ e = .returned (.tuple #[.slice none 0 0, .int .i64 k])
  | .ok (ks, r) => RS R r d (ScV S l.length cap) w' ∧ KeepS S l.length w w' ∧ ∃ A c, e = .returned (.tuple #[.slice A ks.length c, .int .i64 0]) ∧ RN8 w' (fun b => w.heap.size ≤ b ∧ b < w'.heap.size) A ks
theorem Off.old {F : Nat → Prop} {w w' : World} {C : Nat} (h : Off (fun b => F b ∨ C ≤ b) w w') (hC : w.heap.size ≤ C) : Off F w w' :=
  ⟨h.os, h.tape, h.output, h.size, fun k hk hF => h.block k hk (fun e => e.elim hF (fun e => by omega))⟩
theorem Off.old2 {R S : Nat} {w w' : World} {C : Nat} (h : Off (fun b => b = R ∨ b = S ∨ C ≤ b) w w') (hC : w.heap.size ≤ C) : Off (fun b => b = R ∨ b = S) w w' :=
  ⟨h.os, h.tape, h.output, h.size, fun k hk hF => h.block k hk (fun e => by rcases e with e | e | e; exact hF (.inl e); exact hF (.inr e); omega)⟩
theorem KOut.bad {R S cap d C : Nat} {l : XS} {w w' : World} {o : Except Int (List XV × Bt)} {k : Int} (h : o = .error k) (hk : k ≠ 0) (ho : Off (fun b => b = R ∨ b = S ∨ C ≤ b) w w') (hC : w.heap.size ≤ C) : KOut R S cap d l w o (.returned (.tuple #[.slice none 0 0, .int .i64 k])) w' := by
  subst h
  exact ⟨ho.old2 hC, hk, rfl⟩
theorem kout_good {R S cap d C : Nat} {l : XS} {w w1 w' : World} {o : Except Int (List XV × Bt)} {ks : List XV} {r : Bt} {T : Nat → Prop} {kv pv bv kv' pv' bv' : Value} {ks0 : List XV} {cs cs' : List Value} {t : Bt} (h : o = .ok (ks, r)) (hp : PSt R S cap d C l r T kv pv bv ks0 cs t w w1) (k : PK R S C) (hC : w.heap.size = C) (hc : CSt C T kv' pv' bv' ks cs' [] w') (ho : Off (AllF C kv bv) w1 w') :
    KOut R S cap d l w o (.returned (.tuple #[kv', .int .i64 0])) w' := by
  subst h
  have hge : ∀ b, AllF C kv bv b → C ≤ b := fun b hb => by
    rcases hb with hb | hb | hb
    · exact Nat.le_of_eq hb.symm
    · exact (World.ownsRow.lt hp.cn.kids b hb).1
    · exact (World.ownsRow.lt hp.cn.buf b hb).1
  have hR : ¬ AllF C kv bv R := fun e => by have := hge R e; have := k.rc; omega
  have hS : ¬ AllF C kv bv S := fun e => by have := hge S e; have := k.sc; omega
  obtain ⟨A, c, hkv, hrn⟩ := RN8.of_own (T' := fun b => w.heap.size ≤ b ∧ b < w'.heap.size) hc.kids rfl hc.read (fun b hb => by have := hc.apart b hb; exact ⟨by omega, this.2.1⟩) (fun b hb => by have := World.ownsRow.lt hc.kids b hb; exact ⟨by omega, this.2⟩)
  refine ⟨Off.old2 (C := C) (hp.off.then (ho.mono (fun b e => .inr (.inr (hge b e))))) (Nat.le_of_eq hC), hp.rd.off ho hR, hp.keep.trans (KeepS.off ho hS), A, c, by rw [hkv], hrn⟩
set_option maxRecDepth 100000 in
set_option maxHeartbeats 40000000 in
theorem content_any {N : Nat} (hE : ElemC N) {R S cap d : Nat} {l : XS} {s : Bt} {w : World} (hI : EIn R S cap d l s w) (hN : s.length ≤ N + 1) :
    Calls Tryz.prog 82 #[.pointer (some ⟨R, 0, none⟩)] w (KOut R S cap d l w (kidsX d l s [] [])) := by
  obtain ⟨C, hC⟩ : ∃ C, w.heap.size = C := ⟨_, rfl⟩
  have hk : PK R S C := ⟨hI.neR, hI.neS, by have := hI.ml.lt; omega, hI.ne, by have := hI.rd.lt; omega, by have := hI.sc.lt; omega⟩
  have HK := Lib.hid hk
  have HE := Lib.hid hE
  have HI := Lib.hid hI
  have HC := Lib.hid hC
  have hB := below_alloc8 w (CoB (.slice none 0 0) (.pointer none) (.slice none 0 0))
  have hbl : Blk C (CoB (.slice none 0 0) (.pointer none) (.slice none 0 0)) (w.alloc (CoB (.slice none 0 0) (.pointer none) (.slice none 0 0))) := by have := Blk.new (CoB (.slice none 0 0) (.pointer none) (.slice none 0 0)) w; rwa [hC] at this
  have HP : Hid (PSt R S cap d C l s (fun _ => False) (.slice none 0 0) (.pointer none) (.slice none 0 0) [] [] [] w (w.alloc (CoB (.slice none 0 0) (.pointer none) (.slice none 0 0)))) := Lib.hid
    ⟨hI.rd.below hB, hI.sc.off (Off.of_below hB) (fun h => h), hI.ml.below hB, ⟨hbl, .inl rfl, World.ownsRow_nil _ _ _ _, rfl, World.ownsRow_nil _ _ _ _, fun _ h => h.elim⟩, Off.ofB hB, KeepS.off (Off.of_below hB) (fun h => h)⟩
  clear hI hE hB hbl hk
  go_enter Tryz.func82, Tryz.ntmps82
  go_wp2
  generalize w.alloc (CoB (.slice none 0 0) (.pointer none) (.slice none 0 0)) = wA at *
  go_loopw [2, 3, 5] (fun a2 a3 a5 wr => a2 = .slice none 0 0 ∧ a3 = .int .i64 0 ∧ (∃ u, a5 = u) ∧ ∃ (s' : Bt) (ks : List XV) (t : Bt) (T : Nat → Prop) (kv pv bv : Value) (cs : List Value), Hid (PSt R S cap d C l s' T kv pv bv ks cs t w wr) ∧ Hid (kidsX d l s [] [] = kidsX d l s' ks t) ∧ Hid (s'.length ≤ s.length ∧ 2 * ks.length + t.length + 2 * s'.length ≤ 2 * s.length)) (fun _ _ _ wr => restOf R wr)
  case atStart => exact ⟨rfl, rfl, ⟨_, rfl⟩, s, [], [], _, _, _, _, _, HP, Lib.hid rfl, Lib.hid ⟨Nat.le_refl _, by simp⟩⟩
  case round =>
    clear HP
    obtain ⟨rfl, rfl, ⟨u5, rfl⟩, s', ks, t, T, kv, pv, bv, cs, HP, HX, HB⟩ := hrel
    cases hw : wordL [60, 47] s' with
    | some r =>
      have HT : Hid (∀ W, RS R s' d (ScV S l.length cap) W → Calls Tryz.prog 52 #[.pointer (some ⟨R, 0, none⟩), .string ⟨#[60, 47]⟩] W (fun e w' => e = .returned (.bool true) ∧ RS R r d (ScV S l.length cap) w' ∧ Off (fun b => b = R) W w')) := Lib.hid (fun W hW => take_yes hW hw)
      have HO : Hid (kidsX d l s [] [] = .ok (allX ks t, r)) := Lib.hid (by rw [HX.out, kidsX_eq, hw])
      have HA := Lib.hid (fun W T kv pv bv cs (hW : CSt C T kv pv bv ks cs t W) => all_any hW (by have := HB.out; have := HI.out.short; omega))
      clear hw
      go_wp2_with (first
        | (go_at_call 52; (with_reducible refine (HT.out _ HP.out.rd).mono ?_); rintro e w1 ⟨rfl, r1, o1⟩; have HP1 := Lib.hid (HP.out.rdr HK.out r1 o1); clear r1 o1)
        | (go_at_call 106; (with_reducible refine (HA.out _ _ _ _ _ _ HP1.out.cn).mono ?_); rintro e w2 ⟨kv', pv', bv', cs', rfl, c2, o2⟩; obtain ⟨A, ac, rfl⟩ := c2.kv; have HC2 := Lib.hid (And.intro c2 o2); clear c2 o2))
      go_ret2
      exact kout_good HO.out HP1.out HK.out HC.out HC2.out.1 HC2.out.2
    | none =>
      have HT : Hid (∀ W, RS R s' d (ScV S l.length cap) W → Calls Tryz.prog 52 #[.pointer (some ⟨R, 0, none⟩), .string ⟨#[60, 47]⟩] W (fun e w' => e = .returned (.bool false) ∧ RS R s' d (ScV S l.length cap) w' ∧ Off (fun b => b = R) W w')) := Lib.hid (fun W hW => take_no hW hw)
      have HX2 : Hid (kidsX d l s [] [] = match partX d l s' ks t with | .error e => .error e | .ok (r, ks', t') => kidsX d l r ks' t') := Lib.hid (by rw [HX.out, kids_part hw]; cases partX d l s' ks t <;> rfl)
      have HA := Lib.hid (fun W (hW : PSt R S cap d C l s' T kv pv bv ks cs t w W) => part_any HE.out hW HK.out (by have := HB.out; omega) (by have := HB.out; have := HI.out.len; omega) (by have := HB.out; have := HI.out.short; omega) HI.out.small HI.out.deep (by have := HB.out; have := HI.out.short; omega))
      unfold POut at HA
      have hr0 : restOf R wr = s'.length := rest_of HP.out.rd
      have HR0 := Lib.hid hr0
      clear hw hr0
      cases hp : partX d l s' ks t with
      | error k =>
        have HO : Hid (kidsX d l s [] [] = .error k) := Lib.hid (by rw [HX2.out, hp])
        rw [hp] at HA
        simp only at HA
        clear hp HX2
        go_wp2_with (first
          | (go_at_call 52; (with_reducible refine (HT.out _ HP.out.rd).mono ?_); rintro e w1 ⟨rfl, r1, o1⟩; have HP1 := Lib.hid (HP.out.rdr HK.out r1 o1); clear r1 o1)
          | (go_at_call 105; (with_reducible refine (HA.out _ HP1.out).mono ?_); rintro e w2 ⟨hk, rfl, o2⟩; have HO2 := Lib.hid o2; clear o2))
        go_ret2
        exact KOut.bad HO.out hk HO2.out (Nat.le_of_eq HC.out)
      | ok y =>
        obtain ⟨r, ks', t'⟩ := y
        have HO : Hid (kidsX d l s [] [] = kidsX d l r ks' t') := Lib.hid (by rw [HX2.out, hp])
        have HPP := Lib.hid (part_pot hp)
        rw [hp] at HA
        simp only at HA
        clear hp HX2
        go_wp2_with (first
          | (go_at_call 52; (with_reducible refine (HT.out _ HP.out.rd).mono ?_); rintro e w1 ⟨rfl, r1, o1⟩; have HP1 := Lib.hid (HP.out.rdr HK.out r1 o1); clear r1 o1)
          | (go_at_call 105; (with_reducible refine (HA.out _ HP1.out).mono ?_); rintro e w2 ⟨rfl, T2, kv2, pv2, bv2, cs2, p2⟩; have HP2 := Lib.hid p2; clear p2))
        go_roundw
        case rel => exact ⟨rfl, rfl, ⟨_, rfl⟩, r, ks', t', T2, kv2, pv2, bv2, cs2, HP2, HO, Lib.hid (by have := HB.out; have := HPP.out; omega)⟩
        case measure => have h1 := rest_of HP2.out.rd; have h2 := HPP.out.1; have h3 := HR0.out; show restOf R _ < restOf R wr; omega
end Go.Proofs.YtklcjimmbkpbdaaGreatDoor
