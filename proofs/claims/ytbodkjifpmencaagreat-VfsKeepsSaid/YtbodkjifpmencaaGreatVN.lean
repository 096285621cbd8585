/-
  The walks of package vfs's New, Fail, Write, Append, Read, Remove, Sync. Conditions: a disk of a modest size, bytes of a modest length.
-/
import Derived.Test.YtbodkjifpmencaaGreatVL
import Derived.Test.YtbodkjifpmencaaGreatVfS
namespace Go.Proofs.YtbodkjifpmencaaGreat
open Go.RowKit
open Go.Lib

theorem begin_same (q : Q) (r : Bool) : (beginQ q r).2.bodies = q.bodies ∧ (beginQ q r).2.names = q.names ∧ (beginQ q r).2.kept = q.kept ∧ (beginQ q r).2.changes = q.changes ∧ (beginQ q r).2.loose = q.loose ∧ (beginQ q r).2.room = q.room := by
  rw [begin_snd]
  cases r
  · exact ⟨rfl, rfl, rfl, rfl, rfl, rfl⟩
  · unfold strikeQ
    simp only [if_true]
    split
    · split <;> exact ⟨rfl, rfl, rfl, rfl, rfl, rfl⟩
    · exact ⟨rfl, rfl, rfl, rfl, rfl, rfl⟩
theorem begin_err (q : Q) (r : Bool) : (beginQ q r).1 = 0 ∧ r = true ∨ (beginQ q r).1 = 2 ∨ (beginQ q r).1 = 62 := by
  unfold beginQ
  cases r
  · exact .inr (.inl rfl)
  · rcases strikeQ q with ⟨a, b⟩
    cases a
    · exact .inl ⟨rfl, rfl⟩
    · exact .inr (.inr rfl)
theorem foot_begin {L : Lay} {q : Q} {r : Bool} {b : Nat} : foot L (beginQ q r).2 b ↔ foot L q b := by
  obtain ⟨h1, _, _, h4, _⟩ := begin_same q r
  unfold foot
  rw [h1, h4]
/-- Right, then begin: at one call's head. -/
theorem begin_at {L : Lay} {q : Q} {w w1 : World} (H : QD L q w) {N : Nat} (hS : Small N q) (hb : Below w.heap.size w w1) (r : Bool) (e : Int) (q1 : Q) (hq : beginQ q r = (e, q1)) : Calls Tryz.prog 42 #[ptr L.d, .bool r] w1 fun x w' => x = .returned (.int .i64 e) ∧ Step L q w L q1 w' := by
  refine (begin_any (H.below hb) r hS.a0 hS.a1).mono fun x w' ⟨h1, h2⟩ => ?_
  rw [hq] at h1 h2
  exact ⟨h1, (Step.below H hb).trans h2⟩
set_option maxRecDepth 100000 in
set_option maxHeartbeats 1000000 in
theorem sync_any {L : Lay} {q : Q} {w : World} (H : QD L q w) {N : Nat} (hS : Small N q) (hN : N ≤ 1048576) (s : ByteArray) (hs : s.size ≤ 281474976710656) :
    Calls Tryz.prog 19 #[ptr L.d, .string s] w fun e w' => e = .returned (.int .i64 (syncQ q s.data.toList).1) ∧ ∃ L', Step L q w L' (syncQ q s.data.toList).2 w' := by
  obtain ⟨r, hr⟩ : ∃ r, rightL s.data.toList = r := ⟨_, rfl⟩
  obtain ⟨e, q1, hq⟩ : ∃ e q1, beginQ q r = (e, q1) := ⟨_, _, rfl⟩
  have hR := right_any s
  rw [hr] at hR
  have HR := Lib.hid (fun w => hR w hs)
  have hB0 := fun w1 (hb : Below w.heap.size w w1) => begin_at H hS hb r e q1 hq
  have HB := Lib.hid hB0
  have hS1 : Small N q1 := by have := hS.begin r; rw [hq] at this; exact this
  have her := begin_err q r
  rw [hq] at her
  have HSQ : Hid (syncQ q s.data.toList = if e = 0 then (match look q1.names s.data.toList with | none => (60, q1) | some k => (0, { q1 with bodies := q1.bodies.set k ⟨(qbody q1 k).now, (qbody q1 k).now.length⟩, loose := dropN q1.loose k })) else (e, q1)) := Lib.hid (by unfold syncQ; rw [hr, hq]; rfl)
  have HS1 := Lib.hid hS1
  have HRL := Lib.hid hr
  have HER := Lib.hid her
  clear hR hB0 hq hS1 hr her H hS
  by_cases he : e = 0
  · subst he
    have hk : keyOf Tryz.prog 9 (.string s) = some (.string s.data.toList) := key_str s (by unfold maxLen; omega)
    have HK := Lib.hid hk
    clear hk
    rw [if_pos rfl] at HSQ
    obtain ⟨G, hG⟩ : ∃ G, look q1.names s.data.toList = G := ⟨_, rfl⟩
    have HG := Lib.hid hG
    rw [hG] at HSQ
    clear hG
    cases G with
    | none =>
      unfold ptr at *
      go_enter Tryz.func19, Tryz.ntmps19
      go_wp2_with (first
        | (go_at_call 43; (with_reducible refine (HR.out _).mono ?_); rintro e w1 ⟨rfl, hb1⟩)
        | (go_at_call 42; (with_reducible refine (HB.out _ hb1).mono ?_); rintro e w2 ⟨rfl, st⟩; have c1 := st.to.c1)
        | (at_lookup; refine wpList_lookup_map _ rfl _ _ 54 rfl 9 70 KS Tryz.underlying54 (.pointer none) (zeroP _) L.mn _ rfl st.to.names _ _ rfl HK.out (.pointer none) (by rw [look_entN_get, HG.out]; rfl) ?_))
      go_ret
      rw [HSQ.out]
      exact ⟨rfl, L, st⟩
    | some k =>
      obtain ⟨nw, hnw⟩ : ∃ n, (qbody q1 k).now.length = n := ⟨_, rfl⟩
      have hkl : k < q1.bodies.length := HS1.out.name HG.out
      have HKL := Lib.hid hkl
      have hk20 : k ≤ 1048576 := by have := HS1.out.nb; omega
      have hnl : nw ≤ 1048576 := by have := (HS1.out.body k).1; omega
      have hsz : ∀ W, QD L q1 W → Calls Tryz.prog 37 #[.pointer (some ⟨L.bl k, 0, none⟩)] W fun e w' => e = .returned (.int .i64 (nw : Int)) ∧ W = w' := fun W h => by
        have := size_any h (some k) (fun j hj => by cases hj; exact hkl)
        rw [show sizeO q1 (some k) = nw from hnw] at this
        exact this
      have HSZ := Lib.hid hsz
      have HNW := Lib.hid hnw
      have hs2 : syncQ q s.data.toList = (0, { q1 with bodies := q1.bodies.set k ⟨(qbody q1 k).now, nw⟩, loose := dropN q1.loose k }) := by rw [HSQ.out, ← hnw]
      have HSQ2 := Lib.hid hs2
      clear hsz hkl hnw hs2
      unfold ptr at *
      go_enter Tryz.func19, Tryz.ntmps19
      go_wp2_with (first
        | (go_at_call 43; (with_reducible refine (HR.out _).mono ?_); rintro e w1 ⟨rfl, hb1⟩)
        | (go_at_call 42; (with_reducible refine (HB.out _ hb1).mono ?_); rintro e w2 ⟨rfl, st⟩; have c1 := st.to.c1)
        | (at_lookup; refine wpList_lookup_map _ rfl _ _ 54 rfl 9 70 KS Tryz.underlying54 (.pointer none) (zeroP _) L.mn _ rfl st.to.names _ _ rfl HK.out (.pointer (some ⟨L.bl k, 0, none⟩)) (by rw [look_entN_get, HG.out]; rfl) ?_; have b2 := st.to.b2 HKL.out; have f2 := (st.to.bod k HKL.out).free 2)
        | (go_at_call 37; (with_reducible refine (HSZ.out _ st.to).mono ?_); rintro e w3 ⟨rfl, rfl⟩))
      have hb2 := (st.to.bod k HKL.out).set 2 (.int .i64 (nw : Int))
      have hg2 := grown_set w2 (L.bl k) 2 (.int .i64 (nw : Int))
      clear b2 f2 c1
      obtain ⟨w3, hw3⟩ : ∃ W, w2.setCell ⟨L.bl k, 2, none⟩ (.int .i64 (nw : Int)) = W := ⟨_, rfl⟩
      rw [hw3] at hb2 hg2 ⊢
      clear hw3
      have H3 : QD (upB L k (L.bv k)) { q1 with bodies := q1.bodies.set k ⟨(qbody q1 k).now, nw⟩ } w3 :=
        st.to.setB HKL.out ((Off.of_grown hg2).mono (fun x h => .inl (Option.some.inj h).symm)) (L.bv k) (qbody q1 k).now nw hb2 ((st.to.row k HKL.out).off (Off.of_grown hg2) (fun b hb e => ne_kind (st.to.kr HKL.out hb) (st.to.kb HKL.out) (by decide) (Option.some.inj e).symm)) (fun b hb => .inl hb)
      have st3 : Step L q w (upB L k (L.bv k)) { q1 with bodies := q1.bodies.set k ⟨(qbody q1 k).now, nw⟩ } w3 :=
        st.trans ⟨rfl, H3, (Off.of_grown hg2).mono (fun x h => .inr (.inr (.inr (.inr (.inr (.inl ⟨k, HKL.out, .inl (Option.some.inj h).symm⟩)))))), fun b hb => foot_setB (q := q1) (x := ⟨(qbody q1 k).now, nw⟩) (l := q1.loose) HKL.out (L.bv k) (fun b hb => .inl hb) hb⟩
      have HST := Lib.hid st3
      have c4 : w3.cell? ⟨L.d, 4, none⟩ = some (.map (some L.ml)) := H3.c4
      have b0 : w3.cell? ⟨L.bl k, 0, none⟩ = some (.int .i64 (k : Int)) := hb2.cell 0
      clear H3 st3 hb2 hg2
      go_still_tail 8, (by kernel_rfl)
      change wpList _ _ _ _ _ w3.drew
      clear c4 b0
      have hm : MapIs Tryz.prog 3 L.ml (entL L q1.loose) w3.drew := HST.out.to.loose
      go_wp2_with (at_delete; refine wpList_delete_map _ rfl _ _ 56 3 rfl 70 KI Tryz.underlying56 L.ml _ rfl hm _ _ rfl (key_nat k hk20) ?_; intro w4 hm4 hg4)
      go_ret
      rw [drop_entL] at hm4
      rw [HSQ2.out]
      have H4 := HST.out.to.drew.setL hg4 (dropN q1.loose k) hm4
      refine ⟨rfl, upB L k (L.bv k), HST.out.trans ⟨rfl, H4, ?_, fun b hb => .inl hb⟩⟩
      exact ((Off.refl _ w3).drew).trans (Off.of_grown hg4) (fun x h => .inl (.inr (.inr (.inr (.inr (.inl (Option.some.inj h).symm))))))
  · rw [if_neg he] at HSQ
    have hne : (e == 0) = false := by rw [beq_eq_false_iff_ne]; exact he
    unfold ptr at *
    go_enter Tryz.func19, Tryz.ntmps19
    go_wp2_with (first
      | (go_at_call 43; (with_reducible refine (HR.out _).mono ?_); rintro e w1 ⟨rfl, hb1⟩)
      | (go_at_call 42; (with_reducible refine (HB.out _ hb1).mono ?_); rintro e w2 ⟨rfl, st⟩))
    go_ret
    rw [HSQ.out]
    exact ⟨rfl, L, st⟩
end Go.Proofs.YtbodkjifpmencaaGreat
