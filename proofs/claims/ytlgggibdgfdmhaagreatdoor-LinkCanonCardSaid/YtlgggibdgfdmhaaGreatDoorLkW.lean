/-
  Links: the document's way to take a text apart is parseL. No program text.
-/
import Derived.Test.YtlgggibdgfdmhaaGreatDoorLkV
import Derived.Test.YtlgggibdgfdmhaaGreatDoorKG
namespace Go.Proofs.YtlgggibdgfdmhaaGreatDoor
open Go.RowKit
open Go.Lib

theorem rPort_print (n : Nat) (r : List UInt8) (hn : n ≤ 65535) (hr : ∀ c t, r = c :: t → c = 47 ∨ c = 63 ∨ c = 35) : rPort (portL n ++ r) = some (n, r) := by
  unfold portL
  split
  · rename_i h0
    subst h0
    unfold rPort
    rw [List.nil_append, if_neg]
    cases r with
    | nil => simp
    | cons c t => rcases hr c t rfl with rfl | rfl | rfl <;> simp
  · rename_i h0
    have hd : digs 10 5 (decDigits n ++ r) = decDigits n := by
      have := digs_stop 10 5 (decDigits n ++ r) (decDigits n).length (by simp) (dec_length n hn) (by
        rw [List.take_left]
        have h := dec_all n
        rw [List.all_eq_true] at h ⊢
        intro x hx; rw [dgt_same]; exact h x hx) (by
        cases r with
        | nil => exact .inl (by simp)
        | cons c t =>
          refine .inr (.inr ⟨c, by rw [List.getElem?_append_right (Nat.le_refl _), Nat.sub_self]; rfl, ?_⟩)
          rw [dgt_same]
          rcases hr c t rfl with rfl | rfl | rfl <;> decide)
      rw [this, List.take_left]
    obtain ⟨c, u, e, hc⟩ := dec_head n (by omega)
    have hv : valD 10 (decDigits n) = (n : Int) := by rw [val_same _ (dec_all n), decV_dec]
    unfold rPort
    rw [if_pos (by rfl)]
    simp only [List.cons_append, List.drop_succ_cons, List.drop_zero]
    rw [hd, hv, if_neg]
    · rw [List.drop_left]; rfl
    · intro h
      rcases h with h | h | h
      · rw [e] at h; cases h
      · rw [e] at h; injection h with h; exact hc h
      · omega
theorem rPort_some {r r2 : List UInt8} {n : Nat} (hh : ∀ c t, r = c :: t → c = 58 ∨ c = 47 ∨ c = 63 ∨ c = 35) (h : rPort r = some (n, r2)) : r = portL n ++ r2 ∧ n ≤ 65535 := by
  unfold rPort at h
  split at h
  · rename_i h58
    cases r with
    | nil => cases h58
    | cons c t =>
      injection h58 with h58
      subst h58
      simp only [List.drop_succ_cons, List.drop_zero] at h
      split at h
      · cases h
      · rename_i hno
        injection h with h
        injection h with h1 h2
        have hall : (digs 10 5 t).all dgtB = true := by
          rw [List.all_eq_true]; intro x hx; rw [← dgt_same]; exact digs_all 10 5 t x hx
        have hv := val_same _ hall
        have hpre := digs_pre 10 5 t
        have hnz : (digs 10 5 t).length ≠ 0 := fun e => hno (.inl e)
        have h48 : t.head? ≠ some 48 := fun e => hno (.inr (.inl e))
        have hle : ¬ 65535 < valD 10 (digs 10 5 t) := fun e => hno (.inr (.inr e))
        cases hd : digs 10 5 t with
        | nil => rw [hd] at hnz; exact absurd rfl hnz
        | cons c u =>
          have hc : c ≠ 48 := fun e => h48 (by
            rw [hd] at hpre
            cases t with
            | nil => simp at hpre
            | cons x y => simp at hpre; rw [← hpre.1, e]; rfl)
          have hdd := dec_decV (digs 10 5 t) c u hd hall hc
          have hn : n = decV (digs 10 5 t) := by rw [← h1, hv]; rfl
          have hpos : 0 < n := by rw [hn, hd]; rw [hd] at hall; exact decV_pos hall hc
          refine ⟨?_, by rw [hn]; omega⟩
          unfold portL
          rw [if_neg (by omega), hn, hdd, ← h2, List.cons_append]
          congr 1
          conv => lhs; rw [← List.take_append_drop (digs 10 5 t).length t]
          rw [← hpre]
  · rename_i h58
    injection h with h
    injection h with h1 h2
    rw [← h1, ← h2]
    exact ⟨rfl, by omega⟩
theorem mark_no {b : Bool} {c : UInt8} {l : List UInt8} : ∀ x t, markL b c l = x :: t → x = c := fun _ _ h => mark_head h
theorem sep2_no {a : List UInt8} (h1 : 63 ∉ a) (h2 : 35 ∉ a) : ∀ x ∈ a, ([63, 35] : List UInt8).contains x = false := fun x hx => by
  have e1 : x ≠ 63 := fun e => h1 (e ▸ hx)
  have e2 : x ≠ 35 := fun e => h2 (e ▸ hx)
  simp [e1, e2]
theorem rFrag_print (a h : List UInt8) (n : Nat) (pa qu fr : List UInt8) (hq hf : Bool) (h1 : 35 ∉ fr) (h2 : hf = false → fr = []) : rFrag a h n pa qu hq (markL hf 35 fr) = some ⟨a, h, n, pa, qu, fr, hq, hf⟩ := by
  unfold rFrag markL
  cases hf with
  | false => rw [h2 rfl]; rfl
  | true =>
    have hu := until_all fr [35] (one_no h1)
    simp only [if_true, List.drop_succ_cons, List.drop_zero]
    rw [if_neg (by simp), if_neg (by omega)]
theorem rRest_print (p : Lk) (hp : WF p) : rRest p.scheme p.host p.port (restL p) = some p := by
  have hu : untilL (restL p) [63, 35] = p.path.length := by
    unfold restL
    rw [List.append_assoc]
    refine until_app _ _ _ (sep2_no hp.pathQ hp.pathF) (fun c t h => ?_)
    cases hq : p.hasQ with
    | true => rw [hq] at h; simp only [markL, if_true, List.cons_append] at h; injection h with h; rw [← h]; decide
    | false => rw [hq] at h; simp only [markL, Bool.false_eq_true, if_false, List.nil_append] at h; have := mark_head (b := p.hasF) (c := 35) (l := p.frag) h; rw [this]; decide
  have ht : (restL p).take p.path.length = p.path := by unfold restL; rw [List.append_assoc]; exact List.take_left
  have hd : (restL p).drop p.path.length = markL p.hasQ 63 p.query ++ markL p.hasF 35 p.frag := by unfold restL; rw [List.append_assoc]; exact List.drop_left
  unfold rRest
  rw [hu, ht, hd]
  cases hq : p.hasQ with
  | true =>
    have e : markL true 63 p.query ++ markL p.hasF 35 p.frag = (63 :: p.query) ++ markL p.hasF 35 p.frag := rfl
    have hu2 : untilL ((63 :: p.query) ++ markL p.hasF 35 p.frag) [35] = (63 :: p.query).length := by
      refine until_app _ _ _ (one_no (by rw [List.mem_cons, not_or]; exact ⟨by decide, hp.quF⟩)) (fun c t h => ?_)
      rw [mark_head h]; decide
    rw [e, if_pos (by rfl), hu2, List.take_left, List.drop_left]
    simp only [List.drop_succ_cons, List.drop_zero]
    rw [rFrag_print _ _ _ _ _ _ _ _ hp.frF hp.noF, ← hq]
  | false =>
    have e : markL false 63 p.query ++ markL p.hasF 35 p.frag = markL p.hasF 35 p.frag := rfl
    rw [e, if_neg, rFrag_print _ _ _ _ _ _ _ _ hp.frF hp.noF]
    · rw [← hp.noQ hq, ← hq]
    · intro h
      cases hm : markL p.hasF 35 p.frag with
      | nil => rw [hm] at h; cases h
      | cons x t => rw [hm] at h; injection h with h; have := mark_head hm; rw [this] at h; revert h; decide
theorem rParse_print (p : Lk) (hp : WF p) (hl : (printL p).length ≤ 2048) : rParse (printL p) = some p := by
  have e : printL p = p.scheme ++ 58 :: (47 :: 47 :: (p.host ++ portL p.port ++ restL p)) := by unfold printL rootL; simp [List.append_assoc]
  have hu : untilL (printL p) [58] = p.scheme.length := by rw [e]; exact until_mid _ _ _ _ (one_no (sch_no _ hp.sch)) (by decide)
  have ht : (printL p).take p.scheme.length = p.scheme := by rw [e]; exact List.take_left
  have hd : (printL p).drop p.scheme.length = 58 :: 47 :: 47 :: (p.host ++ portL p.port ++ restL p) := by rw [e]; exact List.drop_left
  have hd3 : (printL p).drop (p.scheme.length + 3) = p.host ++ portL p.port ++ restL p := by
    rw [← List.drop_drop, hd]; rfl
  have hlen : p.scheme.length + 3 ≤ (printL p).length := by rw [e]; simp
  unfold rParse
  rw [if_neg (by omega), hu, ht, hd, hd3, if_pos ⟨hp.sch, hlen, rfl⟩]
  have hrh : ∀ c t, restL p = c :: t → c = 47 ∨ c = 63 ∨ c = 35 := fun c t h => rest_head hp.path h
  have hu2 : untilL (p.host ++ portL p.port ++ restL p) [58, 47, 63, 35] = p.host.length := by
    rw [List.append_assoc]
    refine until_app _ _ _ (host_sep hp.host) (fun c t h => ?_)
    unfold portL at h
    split at h
    · rcases hrh c t h with rfl | rfl | rfl <;> decide
    · injection h with h; rw [← h]; decide
  have ht2 : (p.host ++ portL p.port ++ restL p).take p.host.length = p.host := by rw [List.append_assoc]; exact List.take_left
  have hd2 : (p.host ++ portL p.port ++ restL p).drop p.host.length = portL p.port ++ restL p := by rw [List.append_assoc]; exact List.drop_left
  unfold rBehind
  rw [hu2, ht2, hd2, if_pos ⟨hp.host, hp.host1, hp.host2⟩, rPort_print _ _ hp.port hrh]
  simp only
  have hok : okHead (restL p) = true := by
    cases hr : restL p with
    | nil => rfl
    | cons c t => rcases hrh c t hr with rfl | rfl | rfl <;> rfl
  rw [hok, hp.tail, if_pos (by rfl), rRest_print p hp]
theorem rFrag_some {a h : List UInt8} {n : Nat} {pa qu : List UInt8} {hq : Bool} {r : List UInt8} {p : Lk} (hr : ∀ c t, r = c :: t → c = 35) (he : rFrag a h n pa qu hq r = some p) :
    p.scheme = a ∧ p.host = h ∧ p.port = n ∧ p.path = pa ∧ p.query = qu ∧ p.hasQ = hq ∧ markL p.hasF 35 p.frag = r ∧ 35 ∉ p.frag ∧ (p.hasF = false → p.frag = []) := by
  unfold rFrag at he
  split at he
  · rename_i h0
    injection he with he
    subst he h0
    exact ⟨rfl, rfl, rfl, rfl, rfl, rfl, rfl, by simp, fun _ => rfl⟩
  · rename_i h0
    split at he
    · cases he
    · rename_i hu
      injection he with he
      subst he
      cases r with
      | nil => exact absurd rfl h0
      | cons c t =>
        have hc := hr c t rfl
        subst hc
        refine ⟨rfl, rfl, rfl, rfl, rfl, rfl, rfl, fun hm => hu ?_, fun h => by cases h⟩
        show untilL t [35] < t.length
        have hm : (35 : UInt8) ∈ t := hm
        obtain ⟨x, y, e, hx⟩ := first_at hm
        rw [e, until_mid x y [35] 35 (one_no hx) (by decide)]
        simp
theorem rRest_some {a h : List UInt8} {n : Nat} {r : List UInt8} {p : Lk} (hok : okHead r = true) (he : rRest a h n r = some p) :
    p.scheme = a ∧ p.host = h ∧ p.port = n ∧ restL p = r ∧ pathB p.path = true ∧ 63 ∉ p.path ∧ 35 ∉ p.path ∧ 35 ∉ p.query ∧ 35 ∉ p.frag ∧ (p.hasQ = false → p.query = []) ∧ (p.hasF = false → p.frag = []) := by
  unfold rRest at he
  have hno := until_no r [63, 35]
  have hnx := until_next r [63, 35]
  have happ := List.take_append_drop (untilL r [63, 35]) r
  generalize hP : r.take (untilL r [63, 35]) = P at *
  generalize hR : r.drop (untilL r [63, 35]) = R at *
  have n63 : (63 : UInt8) ∉ P := fun hm => by have := hno 63 hm; revert this; decide
  have n35 : (35 : UInt8) ∉ P := fun hm => by have := hno 35 hm; revert this; decide
  have hpB : pathB P = true := by
    unfold pathB
    cases P with
    | nil => rfl
    | cons c t =>
      rw [← happ] at hok
      have hs : slashB c = true := hok
      have h1 : c ≠ 63 := fun e => n63 (by rw [e]; simp)
      have h2 : c ≠ 35 := fun e => n35 (by rw [e]; simp)
      unfold slashB at hs
      simp [h1, h2] at hs
      subst hs
      rfl
  have hno2 := until_no R [35]
  have hnx2 := until_next R [35]
  have happ2 := List.take_append_drop (untilL R [35]) R
  split at he
  · rename_i h63
    generalize hQ : R.take (untilL R [35]) = Q at *
    generalize hS : R.drop (untilL R [35]) = S at *
    have hSh : ∀ c t, S = c :: t → c = 35 := fun c t e => by have := hnx2 c t e; simpa using this
    obtain ⟨e1, e2, e3, e4, e5, e6, e7, e8, e9⟩ := rFrag_some hSh he
    have hQ1 : ∃ q, Q = 63 :: q := by
      cases R with
      | nil => cases h63
      | cons c t =>
        injection h63 with h63
        subst h63
        have : 1 ≤ untilL (63 :: t) [35] := by unfold untilL; simp
        cases Q with
        | nil =>
          have h := congrArg List.length hQ
          rw [List.length_take] at h
          simp at h
          omega
        | cons x q =>
          rw [List.cons_append] at happ2
          injection happ2 with h1 _
          exact ⟨q, by rw [h1]⟩
    obtain ⟨q, hq⟩ := hQ1
    have hqn : (35 : UInt8) ∉ q := fun hm => by have := hno2 35 (by rw [hq]; simp [hm]); revert this; decide
    refine ⟨e1, e2, e3, ?_, by rw [e4]; exact hpB, by rw [e4]; exact n63, by rw [e4]; exact n35, ?_, e8, (fun h => by rw [e6] at h; cases h), e9⟩
    · unfold restL
      rw [e4, e5, e6, e7, hq]
      simp only [markL, if_true, List.drop_succ_cons, List.drop_zero]
      rw [← happ, ← happ2, hq, List.append_assoc]
    · rw [e5, hq]; exact hqn
  · rename_i h63
    have hRh : ∀ c t, R = c :: t → c = 35 := fun c t e => by
      have := hnx c t e
      have h1 : c ≠ 63 := fun e2 => h63 (by rw [e, e2]; rfl)
      simp [h1] at this
      exact this
    obtain ⟨e1, e2, e3, e4, e5, e6, e7, e8, e9⟩ := rFrag_some hRh he
    refine ⟨e1, e2, e3, ?_, by rw [e4]; exact hpB, by rw [e4]; exact n63, by rw [e4]; exact n35, by rw [e5]; simp, e8, fun _ => e5, e9⟩
    unfold restL
    rw [e4, e6, e7]
    simp only [markL, Bool.false_eq_true, if_false, List.append_nil]
    exact happ
theorem rParse_some {l : List UInt8} {p : Lk} (h : rParse l = some p) : IsLink l p := by
  unfold rParse at h
  split at h
  · cases h
  · rename_i hl
    split at h
    · rename_i hc
      obtain ⟨hs, hl3, h3⟩ := hc
      generalize hn : untilL l [58] = n at *
      have hb : l = l.take n ++ [58, 47, 47] ++ l.drop (n + 3) := by
        conv => lhs; rw [← List.take_append_drop n l, ← List.take_append_drop 3 (l.drop n), h3, List.drop_drop]
        rw [List.append_assoc]
      generalize l.take n = a at *
      generalize l.drop (n + 3) = b at *
      unfold rBehind at h
      have hno := until_no b [58, 47, 63, 35]
      have hnx := until_next b [58, 47, 63, 35]
      have happ := List.take_append_drop (untilL b [58, 47, 63, 35]) b
      have hle := until_le b [58, 47, 63, 35]
      have hlt : (b.take (untilL b [58, 47, 63, 35])).length = untilL b [58, 47, 63, 35] := by rw [List.length_take]; omega
      generalize untilL b [58, 47, 63, 35] = m at *
      split at h
      · rename_i hh
        obtain ⟨g1, g2, g3⟩ := hh
        generalize b.take m = H at *
        generalize b.drop m = R at *
        cases hp : rPort R with
        | none => rw [hp] at h; cases h
        | some x =>
          obtain ⟨k, r⟩ := x
          rw [hp] at h
          simp only at h
          split at h
          · rename_i ht
            rw [Bool.and_eq_true] at ht
            obtain ⟨e1, e2, e3, e4, e5, e6, e7, e8, e9, e10, e11⟩ := rRest_some ht.1 h
            obtain ⟨q1, q2⟩ := rPort_some (fun c t e => by
              have := hnx c t e
              have hm : c ∈ ([58, 47, 63, 35] : List UInt8) := by simpa using this
              simpa using hm) hp
            have hpr : l = printL p := by
              unfold printL rootL
              rw [e1, e2, e3, e4, hb, ← happ, q1]
              simp [List.append_assoc]
            exact ⟨hpr, ⟨by rw [e1]; exact hs, by rw [e2]; exact g1, by rw [e2]; omega, by rw [e2]; omega, by rw [e3]; exact q2, e5, by rw [e4]; exact ht.2, e6, e7, e8, e9, e10, e11⟩, by omega⟩
          · cases h
      · cases h
    · cases h
theorem rParse_same (l : List UInt8) : rParse l = parseL l :=
  parseL_iff (fun _ h => rParse_some h) (fun p h => by
    obtain ⟨h1, h2, h3⟩ := h
    rw [h1]
    exact rParse_print p h2 (by rw [← h1]; exact h3))
end Go.Proofs.YtlgggibdgfdmhaaGreatDoor
