/-
  The walks of package vfs's Remove, Append, Write, Rename. Conditions: a disk of a modest size, bytes of a modest length.
-/
import Derived.Test.YtbodkjifpmencaaGreatY05
namespace Go.Proofs.YtbodkjifpmencaaGreat
open Go.RowKit
open Go.Lib

theorem rb_step {L L' : Lay} {q q' : Q} {w w' : World} {A : Option Addr} {b : Bs} (h : RB w A b) (st : Step L q w L' q' w') (hF : 0 < b.length → ∀ x, aBlock A = some x → ¬ foot L q x) : RB w' A b := h.off' st.off hF
theorem ab_lt {w : World} {A : Option Addr} {b : Bs} (h : RB w A b) (hb : 0 < b.length) : ∀ x, aBlock A = some x → x < w.heap.size := by
  obtain ⟨ab, ao, rfl, hl, _⟩ := h hb
  intro x hx; cases hx; exact hl
/-- A change to a body that is there. -/
theorem change_at {L : Lay} {q : Q} {w : World} (H : QD L q w) {D : Nat} (hD : L.d = D) {N : Nat} (hS : Small N q) (hN : N ≤ 1048576) (f t : ByteArray) (k : Nat) (hk : k < q.bodies.length) (hf : f.size ≤ 161) (ht : t.size ≤ 161) :
    Calls Tryz.prog 45 #[.pointer (some ⟨D, 0, none⟩), .string f, .string t, .pointer (some ⟨L.bl k, 0, none⟩)] w fun e w' => e = .returned (.tuple #[]) ∧ ∃ L', Step L q w L' (changeQ q f.data.toList t.data.toList (some k)) w' := by
  subst hD
  exact change_any H hS hN f t (some k) (fun j hj => by cases hj; exact hk) hf ht
theorem change_no {L : Lay} {q : Q} {w : World} (H : QD L q w) {N : Nat} (hS : Small N q) (hN : N ≤ 1048576) (f t : ByteArray) (hf : f.size ≤ 161) (ht : t.size ≤ 161) :
    Calls Tryz.prog 45 #[.pointer (some ⟨L.d, 0, none⟩), .string f, .string t, .pointer none] w fun e w' => e = .returned (.tuple #[]) ∧ ∃ L', Step L q w L' (changeQ q f.data.toList t.data.toList none) w' :=
  change_any H hS hN f t none (fun j hj => by cases hj) hf ht
set_option maxRecDepth 100000 in
set_option maxHeartbeats 1000000 in
theorem remove_any {L : Lay} {q : Q} {w : World} (H : QD L q w) {N : Nat} (hS : Small N q) (hN : N ≤ 1048576) (s : ByteArray) (hs : s.size ≤ 281474976710656) :
    Calls Tryz.prog 29 #[ptr L.d, .string s] w fun e w' => e = .returned (.int .i64 (removeQ q s.data.toList).1) ∧ ∃ L', Step L q w L' (removeQ q s.data.toList).2 w' := by
  obtain ⟨r, hr⟩ : ∃ r, rightL s.data.toList = r := ⟨_, rfl⟩
  obtain ⟨e, q1, hq⟩ : ∃ e q1, beginQ q r = (e, q1) := ⟨_, _, rfl⟩
  have hR := right_any s
  rw [hr] at hR
  have HR := Lib.hid (fun w => hR w hs)
  have hB0 := fun w1 (hb : Below w.heap.size w w1) => begin_at H hS hb r e q1 hq
  have HB := Lib.hid hB0
  have hS1 : Small N q1 := by have := hS.begin r; rw [hq] at this; exact this
  have her := begin_err q r
  rw [hq] at her
  have HS1 := Lib.hid hS1
  have HSQ : Hid (removeQ q s.data.toList = if e = 0 then (match look q1.names s.data.toList with | none => (60, q1) | some _ => (0, changeQ q1 s.data.toList s.data.toList none)) else (e, q1)) := Lib.hid (by unfold removeQ; rw [hr, hq]; rfl)
  have HER := Lib.hid her
  have HRL := Lib.hid hr
  clear hR hB0 hq hS1 her H hS hr
  by_cases he : e = 0
  · subst he
    have hrt : r = true := by rcases HER.out with h | h | h <;> simp_all
    have hsl : s.size ≤ 161 := by have := right_len (HRL.out.trans hrt); rw [size_list]; exact this
    have HK := Lib.hid (key_str s (by unfold maxLen; omega))
    rw [if_pos rfl] at HSQ
    obtain ⟨G, hG⟩ : ∃ G, look q1.names s.data.toList = G := ⟨_, rfl⟩
    have HG := Lib.hid hG
    rw [hG] at HSQ
    clear hG hrt
    cases G with
    | none =>
    unfold ptr at *
    go_enter Tryz.func29, Tryz.ntmps29
    go_wp2_with (first
      | (go_at_call 43; (with_reducible refine (HR.out _).mono ?_); rintro e w1 ⟨rfl, hb1⟩)
      | (go_at_call 42; (with_reducible refine (HB.out _ hb1).mono ?_); rintro e w2 ⟨rfl, st⟩; have c1 := st.to.c1)
      | (at_lookup; refine wpList_lookup_map _ rfl _ _ 54 rfl 9 70 KS Tryz.underlying54 (.pointer none) (zeroP _) L.mn _ rfl st.to.names _ _ rfl HK.out (.pointer none) (by rw [look_entN_get, HG.out]; rfl) ?_))
    go_ret
    rw [HSQ.out]
    exact ⟨rfl, L, st⟩
    | some k =>
    unfold ptr at *
    go_enter Tryz.func29, Tryz.ntmps29
    go_wp2_with (first
      | (go_at_call 43; (with_reducible refine (HR.out _).mono ?_); rintro e w1 ⟨rfl, hb1⟩)
      | (go_at_call 42; (with_reducible refine (HB.out _ hb1).mono ?_); rintro e w2 ⟨rfl, st⟩; have c1 := st.to.c1)
      | (at_lookup; refine wpList_lookup_map _ rfl _ _ 54 rfl 9 70 KS Tryz.underlying54 (.pointer none) (zeroP _) L.mn _ rfl st.to.names _ _ rfl HK.out (.pointer (some ⟨L.bl k, 0, none⟩)) (by rw [look_entN_get, HG.out]; rfl) ?_)
      | (go_at_call 45; (with_reducible refine (change_no st.to HS1.out hN s s hsl hsl).mono ?_); rintro e w3 ⟨rfl, L3, st3⟩))
    go_ret
    rw [HSQ.out]
    exact ⟨rfl, L3, st.trans st3⟩
  · rw [if_neg he] at HSQ
    have hne : (e == 0) = false := by rw [beq_eq_false_iff_ne]; exact he
    unfold ptr at *
    go_enter Tryz.func29, Tryz.ntmps29
    go_wp2_with (first
      | (go_at_call 43; (with_reducible refine (HR.out _).mono ?_); rintro e w1 ⟨rfl, hb1⟩)
      | (go_at_call 42; (with_reducible refine (HB.out _ hb1).mono ?_); rintro e w2 ⟨rfl, st⟩))
    go_ret
    rw [HSQ.out]
    exact ⟨rfl, L, st⟩
set_option maxRecDepth 100000 in
set_option maxHeartbeats 1000000 in
theorem append_any {L : Lay} {q : Q} {w : World} (H : QD L q w) {N : Nat} (hS : Small N q) (s : ByteArray) (hs : s.size ≤ 281474976710656) (b : Bs) (A : Option Addr) (c : Nat) (hA : RB w A b) (hAF : 0 < b.length → ∀ x, aBlock A = some x → ¬ foot L q x) (hN : N + 3 + b.length ≤ 1048576) :
    Calls Tryz.prog 21 #[ptr L.d, .string s, .slice A b.length c] w fun e w' => e = .returned (.int .i64 (appendQ q s.data.toList b).1) ∧ ∃ L', Step L q w L' (appendQ q s.data.toList b).2 w' := by
  obtain ⟨r, hr⟩ : ∃ r, rightL s.data.toList = r := ⟨_, rfl⟩
  obtain ⟨e, q1, hq⟩ : ∃ e q1, beginQ q r = (e, q1) := ⟨_, _, rfl⟩
  have hR := right_any s
  rw [hr] at hR
  have HR := Lib.hid (fun w => hR w hs)
  have hB0 := fun w1 (hb : Below w.heap.size w w1) => begin_at H hS hb r e q1 hq
  have HB := Lib.hid hB0
  have hS1 : Small N q1 := by have := hS.begin r; rw [hq] at this; exact this
  have her := begin_err q r
  rw [hq] at her
  have HS1 := Lib.hid hS1
  have HSQ : Hid (appendQ q s.data.toList b = if e = 0 then (match look q1.names s.data.toList with | none => (60, q1) | some k => if hasRoomQ q1 b.length then (0, extendQ q1 k b) else (61, q1)) else (e, q1)) := Lib.hid (by unfold appendQ; rw [hr, hq]; rfl)
  have HER := Lib.hid her
  have HRL := Lib.hid hr
  obtain ⟨nb, hnb⟩ : ∃ n, b.length = n := ⟨_, rfl⟩
  have HNB := Lib.hid hnb
  have HA := Lib.hid hA
  have HAF := Lib.hid hAF
  rw [hnb] at hN HSQ ⊢
  clear hR hB0 hq hS1 her H hS hr hA hAF hnb
  by_cases he : e = 0
  · subst he
    have HK := Lib.hid (key_str s (by unfold maxLen; omega))
    rw [if_pos rfl] at HSQ
    obtain ⟨G, hG⟩ : ∃ G, look q1.names s.data.toList = G := ⟨_, rfl⟩
    have HG := Lib.hid hG
    rw [hG] at HSQ
    clear hG
    cases G with
    | none =>
    unfold ptr at *
    go_enter Tryz.func21, Tryz.ntmps21
    go_wp2_with (first
      | (go_at_call 43; (with_reducible refine (HR.out _).mono ?_); rintro e w1 ⟨rfl, hb1⟩)
      | (go_at_call 42; (with_reducible refine (HB.out _ hb1).mono ?_); rintro e w2 ⟨rfl, st⟩; have c1 := st.to.c1)
      | (at_lookup; refine wpList_lookup_map _ rfl _ _ 54 rfl 9 70 KS Tryz.underlying54 (.pointer none) (zeroP _) L.mn _ rfl st.to.names _ _ rfl HK.out (.pointer none) (by rw [look_entN_get, HG.out]; rfl) ?_))
    go_ret
    rw [HSQ.out]
    exact ⟨rfl, L, st⟩
    | some k =>
    have hkl : k < q1.bodies.length := HS1.out.name HG.out
    have HKL := Lib.hid hkl
    obtain ⟨y, hy⟩ : ∃ y, hasRoomQ q1 (nb : Int) = y := ⟨_, rfl⟩
    have hrm : ∀ W, QD L q1 W → Calls Tryz.prog 44 #[ptr L.d, .int .i64 (nb : Int)] W fun e w' => e = .returned (.bool y) ∧ Below W.heap.size W w' := fun W h => by
      rw [← hy]; exact hasRoom_any h HS1.out (by omega) _ (by omega) (by omega)
    have HRM := Lib.hid hrm
    have hs2 : appendQ q s.data.toList b = if y then (0, extendQ q1 k b) else (61, q1) := by rw [HSQ.out, ← hy]
    have HSQ2 := Lib.hid hs2
    have hex : ∀ W, QD L q1 W → RB W A b → Calls Tryz.prog 49 #[ptr L.d, ptr (L.bl k), .slice A nb c] W fun e w' => e = .returned (.tuple #[]) ∧ ∃ L', Step L q1 W L' (extendQ q1 k b) w' := fun W h hA => by
      have hnb := HNB.out
      by_cases hb0 : nb = 0
      · have hbn : b = [] := List.eq_nil_of_length_eq_zero (by omega)
        subst hbn
        subst hb0
        have e : extendQ q1 k [] = q1 := by unfold extendQ; rw [if_pos rfl]
        rw [e]
        exact (extend_nil h k A c).mono fun e w' ⟨h1, h2⟩ => ⟨h1, L, h2⟩
      · have hn1 := (HS1.out.body k).1
        have := extend_some h hkl b A c hA (by omega) (by omega) (by have := HS1.out.nb; omega) (by have := HS1.out.nl; omega)
        rw [hnb] at this
        exact this.mono fun e w' ⟨h1, v, h2⟩ => ⟨h1, _, h2⟩
    have HEX := Lib.hid hex
    clear hkl hy hrm hs2 hex
    cases y
    all_goals
      unfold ptr at *
      go_enter Tryz.func21, Tryz.ntmps21
      go_wp2_with (first
      | (go_at_call 43; (with_reducible refine (HR.out _).mono ?_); rintro e w1 ⟨rfl, hb1⟩)
      | (go_at_call 42; (with_reducible refine (HB.out _ hb1).mono ?_); rintro e w2 ⟨rfl, st⟩; have c1 := st.to.c1)
      | (at_lookup; refine wpList_lookup_map _ rfl _ _ 54 rfl 9 70 KS Tryz.underlying54 (.pointer none) (zeroP _) L.mn _ rfl st.to.names _ _ rfl HK.out (.pointer (some ⟨L.bl k, 0, none⟩)) (by rw [look_entN_get, HG.out]; rfl) ?_)
      | (go_at_call 44; (with_reducible refine (HRM.out _ st.to).mono ?_); rintro e w3 ⟨rfl, hb3⟩)
      | (go_at_call 49; (with_reducible refine (HEX.out _ (st.to.below hb3) ((rb_step HA.out st HAF.out).below hb3)).mono ?_); rintro e w4 ⟨rfl, L4, st4⟩))
      go_ret
      rw [HSQ2.out]
      first
        | exact ⟨rfl, L4, (st.trans (Step.below st.to hb3)).trans st4⟩
        | exact ⟨rfl, L, st.trans (Step.below st.to hb3)⟩
  · rw [if_neg he] at HSQ
    have hne : (e == 0) = false := by rw [beq_eq_false_iff_ne]; exact he
    unfold ptr at *
    go_enter Tryz.func21, Tryz.ntmps21
    go_wp2_with (first
      | (go_at_call 43; (with_reducible refine (HR.out _).mono ?_); rintro e w1 ⟨rfl, hb1⟩)
      | (go_at_call 42; (with_reducible refine (HB.out _ hb1).mono ?_); rintro e w2 ⟨rfl, st⟩))
    go_ret
    rw [HSQ.out]
    exact ⟨rfl, L, st⟩
set_option maxRecDepth 100000 in
set_option maxHeartbeats 1000000 in
theorem write_any {L : Lay} {q : Q} {w : World} (H : QD L q w) {N : Nat} (hS : Small N q) (s : ByteArray) (hs : s.size ≤ 281474976710656) (b : Bs) (A : Option Addr) (c : Nat) (hA : RB w A b) (hAF : 0 < b.length → ∀ x, aBlock A = some x → ¬ foot L q x) (hN : N + 3 + b.length ≤ 1048576) :
    Calls Tryz.prog 18 #[ptr L.d, .string s, .slice A b.length c] w fun e w' => e = .returned (.int .i64 (writeQ q s.data.toList b).1) ∧ ∃ L', Step L q w L' (writeQ q s.data.toList b).2 w' := by
  obtain ⟨r, hr⟩ : ∃ r, rightL s.data.toList = r := ⟨_, rfl⟩
  obtain ⟨e, q1, hq⟩ : ∃ e q1, beginQ q r = (e, q1) := ⟨_, _, rfl⟩
  have hR := right_any s
  rw [hr] at hR
  have HR := Lib.hid (fun w => hR w hs)
  have hB0 := fun w1 (hb : Below w.heap.size w w1) => begin_at H hS hb r e q1 hq
  have HB := Lib.hid hB0
  have hS1 : Small N q1 := by have := hS.begin r; rw [hq] at this; exact this
  have her := begin_err q r
  rw [hq] at her
  have HS1 := Lib.hid hS1
  have HSQ : Hid (writeQ q s.data.toList b = if e = 0 then (if hasRoomQ q1 ((b.length : Int) - sizeO q1 (look q1.names s.data.toList)) then (0, changeQ (newBodyQ q1 b) s.data.toList s.data.toList (some q1.bodies.length)) else (61, q1)) else (e, q1)) := Lib.hid (by unfold writeQ; rw [hr, hq])
  have HER := Lib.hid her
  have HRL := Lib.hid hr
  have hfq : ∀ x, foot L q1 x → foot L q x := fun x hx => by have := (foot_begin (L := L) (q := q) (r := r) (b := x)).1; rw [hq] at this; exact this hx
  have HFQ := Lib.hid hfq
  obtain ⟨nb, hnb⟩ : ∃ n, b.length = n := ⟨_, rfl⟩
  have HNB := Lib.hid hnb
  have HA := Lib.hid hA
  have HAF := Lib.hid hAF
  rw [hnb] at hN HSQ ⊢
  clear hR hB0 hq hS1 her H hS hr hA hAF hnb hfq
  by_cases he : e = 0
  · subst he
    have hrt : r = true := by rcases HER.out with h | h | h <;> simp_all
    have hsl : s.size ≤ 161 := by have := right_len (HRL.out.trans hrt); rw [size_list]; exact this
    have HK := Lib.hid (key_str s (by unfold maxLen; omega))
    rw [if_pos rfl] at HSQ
    obtain ⟨G, hG⟩ : ∃ G, look q1.names s.data.toList = G := ⟨_, rfl⟩
    have HG := Lib.hid hG
    rw [hG] at HSQ
    obtain ⟨pg, hpg⟩ : ∃ v, ptrO L G = .pointer v := by cases G <;> exact ⟨_, rfl⟩
    have HPG := Lib.hid hpg
    obtain ⟨sz, hsz⟩ : ∃ z, sizeO q1 G = z := ⟨_, rfl⟩
    have hszl : sz ≤ N := by rw [← hsz]; exact HS1.out.size G
    rw [hsz] at HSQ
    have hsc : ∀ W, QD L q1 W → Calls Tryz.prog 37 #[.pointer pg] W fun e w' => e = .returned (.int .i64 (sz : Int)) ∧ W = w' := fun W h => by
      have := size_any h G (fun j hj => by rw [hj] at hG; exact HS1.out.name hG)
      rw [hpg, hsz] at this
      exact this
    have HSC := Lib.hid hsc
    obtain ⟨y, hy⟩ : ∃ y, hasRoomQ q1 ((nb : Int) - (sz : Int)) = y := ⟨_, rfl⟩
    have hrm : ∀ W, QD L q1 W → Calls Tryz.prog 44 #[ptr L.d, .int .i64 ((nb : Int) - (sz : Int))] W fun e w' => e = .returned (.bool y) ∧ Below W.heap.size W w' := fun W h => by
      rw [← hy]; exact hasRoom_any h HS1.out (by omega) _ (by omega) (by omega)
    have HRM := Lib.hid hrm
    rw [hy] at HSQ
    have hex : ∀ W, QD L q1 W → RB W A b → Calls Tryz.prog 46 #[ptr L.d, .slice A nb c] W fun e w' => ∃ L', e = .returned (ptr (L'.bl q1.bodies.length)) ∧ Step L q1 W L' (newBodyQ q1 b) w' := fun W h hA => by
      have hnb := HNB.out
      have := newBody_any h HS1.out (by omega) b A c hA (by omega) (fun hz x hx hf => HAF.out hz x hx (HFQ.out x hf))
      rw [hnb] at this
      exact this
    have HEX := Lib.hid hex
    have hS3 : Small (N + 2 + nb) (newBodyQ q1 b) := by have := HS1.out.newBody b; rw [HNB.out] at this; exact this
    have HS3 := Lib.hid hS3
    have HBL := Lib.hid (newBody_len q1 b)
    clear hG hrt hpg hsz hsc hy hrm hex hS3
    cases y
    all_goals
      unfold ptr at *
      go_enter Tryz.func18, Tryz.ntmps18
      go_wp2_with (first
      | (go_at_call 43; (with_reducible refine (HR.out _).mono ?_); rintro e w1 ⟨rfl, hb1⟩)
      | (go_at_call 42; (with_reducible refine (HB.out _ hb1).mono ?_); rintro e w2 ⟨rfl, st⟩; have c1 := st.to.c1)
      | (at_lookup; refine wpList_lookup_map _ rfl _ _ 54 rfl 9 70 KS Tryz.underlying54 (.pointer none) (zeroP _) L.mn _ rfl st.to.names _ _ rfl HK.out (.pointer pg) (by rw [look_entN_get, HG.out]; exact HPG.out) ?_)
      | (go_at_call 37; (with_reducible refine (HSC.out _ st.to).mono ?_); rintro e w3 ⟨rfl, rfl⟩)
      | (go_at_call 44; (with_reducible refine (HRM.out _ st.to).mono ?_); rintro e w3 ⟨rfl, hb3⟩)
      | (go_at_call 46; (with_reducible refine (HEX.out _ (st.to.below hb3) ((rb_step HA.out st HAF.out).below hb3)).mono ?_); rintro e w4 ⟨L4, rfl, st4⟩)
      | (go_at_call 45; (with_reducible refine (change_at st4.to st4.d HS3.out (by omega) s s q1.bodies.length (by rw [HBL.out]; omega) hsl hsl).mono ?_); rintro e w5 ⟨rfl, L5, st5⟩))
      go_ret
      rw [HSQ.out]
      first
        | exact ⟨rfl, L5, ((st.trans (Step.below st.to hb3)).trans st4).trans st5⟩
        | exact ⟨rfl, L, st.trans (Step.below st.to hb3)⟩
  · rw [if_neg he] at HSQ
    have hne : (e == 0) = false := by rw [beq_eq_false_iff_ne]; exact he
    unfold ptr at *
    go_enter Tryz.func18, Tryz.ntmps18
    go_wp2_with (first
      | (go_at_call 43; (with_reducible refine (HR.out _).mono ?_); rintro e w1 ⟨rfl, hb1⟩)
      | (go_at_call 42; (with_reducible refine (HB.out _ hb1).mono ?_); rintro e w2 ⟨rfl, st⟩))
    go_ret
    rw [HSQ.out]
    exact ⟨rfl, L, st⟩
end Go.Proofs.YtbodkjifpmencaaGreat
