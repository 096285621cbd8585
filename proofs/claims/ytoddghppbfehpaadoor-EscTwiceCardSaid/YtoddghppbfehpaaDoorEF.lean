/-
  The walk of package esc's Unjson. Conditions: texts of at most a million bytes; the library's two tables hold what they are laid with.
-/
import Derived.Test.YtoddghppbfehpaaDoorEG
namespace Go.Proofs.YtoddghppbfehpaaDoor
open Go.RowKit
open Go.Lib

/-- What Unjson answers. -/
def unjson (l : List UInt8) : Option (List UInt8) := if quoted l = true ∧ validD l = true then unj ((l.drop 1).take (l.length - 2)) else none
def UnjOut (o : Option (List UInt8)) (w : World) (e : Ending) (w' : World) : Prop :=
  e = .returned (.tuple #[.string ⟨(o.getD []).toArray⟩, .int .i64 (if o.isSome = true then 0 else 20)]) ∧ Below w.heap.size w w'
theorem UnjOut.bad {o : Option (List UInt8)} {w w' : World} (h : o = none) (hb : Below w.heap.size w w') : UnjOut o w (.returned (.tuple #[.string ⟨#[]⟩, .int .i64 20])) w' := by
  subst h; exact ⟨rfl, hb⟩
theorem UnjOut.good {o : Option (List UInt8)} {l : List UInt8} {w w' : World} (h : o = some l) (hb : Below w.heap.size w w') : UnjOut o w (.returned (.tuple #[.string ⟨l.toArray⟩, .int .i64 0])) w' := by
  subst h; exact ⟨rfl, hb⟩
theorem quoted_inner (l : List UInt8) (hq : quoted l = true) (hv : validD l = true) : IsTxt ((l.drop 1).take (l.length - 2)) := by
  have hq : 2 ≤ l.length ∧ l[0]? = some 34 ∧ l[l.length - 1]? = some 34 := by simpa [quoted] using hq
  obtain ⟨h2, h0, h1⟩ := hq
  have ht := isTxt_of_valid l hv
  match l, h0 with
  | c :: r, h0 =>
    simp at h0
    subst h0
    have hr := isTxt_drop 1 _ ht (fun d hd => by simp at hd; subst hd; decide)
    simp only [List.drop_succ_cons, List.drop_zero, List.length_cons] at *
    have hlen : r.length - 1 + 1 = r.length := by omega
    have e : r = r.take (r.length - 1) ++ [34] := by
      have h := List.take_succ_eq_append_getElem (l := r) (i := r.length - 1) (by omega)
      rw [hlen, List.take_length] at h
      have h1' : r[r.length - 1]? = some 34 := by
        have : (34 :: r)[r.length + 1 - 1]? = some 34 := h1
        rw [show r.length + 1 - 1 = (r.length - 1) + 1 by omega, List.getElem?_cons_succ] at this
        exact this
      have h2' : r[r.length - 1]'(by omega) = 34 := by
        rw [List.getElem?_eq_getElem (by omega)] at h1'
        exact Option.some.inj h1'
      rw [h2'] at h
      exact h
    rw [show r.length + 1 - 2 = r.length - 1 by omega]
    exact isTxt_front _ 34 (by decide) (by rw [← e]; exact hr)
theorem inner_extract (s : ByteArray) : (s.extract 1 (s.size - 1)).data.toList = (s.data.toList.drop 1).take (s.data.toList.length - 2) := by
  rw [← size_list]
  simp only [ByteArray.data_extract, Array.toList_extract, List.extract_eq_take_drop]
  congr 1
theorem map_app (o : Option (List UInt8)) (a b : List UInt8) : (o.map (b ++ ·)).map (a ++ ·) = o.map ((a ++ b) ++ ·) := by
  cases o <;> simp
set_option maxRecDepth 100000 in
set_option maxHeartbeats 2000000 in
theorem unjson_any (s : ByteArray) (w : World) (hs : s.size ≤ 1000000) (hT : Tabs w) : Calls Tryd.prog 16 #[.string s] w (UnjOut (unjson s.data.toList) w) := by
  have hq := isQuoted_any s w hs
  have hv := uvalid_any s w hs hT
  have HT := Lib.hid hT
  clear hT
  cases cq : quoted s.data.toList with
  | false =>
    have HV := Lib.hid (show unjson s.data.toList = none by unfold unjson; rw [cq, if_neg (by simp)])
    rw [cq] at hq
    clear cq hv
    go_enter Tryd.func16, Tryd.ntmps16
    go_wp2_with fail
    refine hq.mono ?_
    clear hq
    rintro e w' ⟨rfl, rfl⟩
    go_wp2
    go_ret2
    exact UnjOut.bad HV.out (Below.refl _ _)
  | true =>
    rw [cq] at hq
    cases cv : validD s.data.toList with
    | false =>
      have HV := Lib.hid (show unjson s.data.toList = none by unfold unjson; rw [cv, if_neg (by simp)])
      rw [cv] at hv
      clear cv cq
      go_enter Tryd.func16, Tryd.ntmps16
      go_wp2_with fail
      refine hq.mono ?_
      clear hq
      rintro e w' ⟨rfl, rfl⟩
      go_wp2_with fail
      refine hv.mono ?_
      clear hv
      rintro e w1 ⟨rfl, b1⟩
      go_wp2
      go_ret2
      exact UnjOut.bad HV.out b1
    | true =>
      have HV := Lib.hid (show unjson s.data.toList = unj (s.extract 1 (s.size - 1)).data.toList by unfold unjson; rw [cq, cv, if_pos ⟨rfl, rfl⟩, inner_extract])
      have HX := Lib.hid (show IsTxt (s.extract 1 (s.size - 1)).data.toList by rw [inner_extract]; exact quoted_inner _ cq cv)
      rw [cv] at hv
      have h2 : 2 ≤ s.size := by
        have h := cq
        unfold quoted at h
        rw [decide_eq_true_eq, ← size_list] at h
        exact h.1
      have hts : (s.extract 1 (s.size - 1)).size ≤ 1000000 := by simp; omega
      obtain ⟨n, hn⟩ : ∃ n, s.size = n + 1 := ⟨s.size - 1, by omega⟩
      have hix : ((s.size : Nat) : Int) - 1 = (n : Nat) := by omega
      have hn1 : 1 ≤ n := by omega
      have hn2 : n ≤ s.size := by omega
      have hnn : s.size - 1 = n := by omega
      rw [hnn] at HV HX hts
      have Hn := Lib.hid hn
      clear cv cq hn hnn
      have hsl : ∀ W, (Instr.slice 9 (.string s) (some (.int .i64 1)) (some (.int .i64 (n : Int))) none).run Tryd.prog W = .ok (.string (s.extract 1 n)) W := fun W =>
        run_slice_string W 9 s .i64 .i64 1 n Tryd.underlying9 (by omega) (by omega) (by omega)
      generalize s.extract 1 n = t at *
      go_enter Tryd.func16, Tryd.ntmps16
      go_wp2_with fail
      refine hq.mono ?_
      clear hq
      rintro e w' ⟨rfl, rfl⟩
      go_wp2_with fail
      refine hv.mono ?_
      clear hv
      rintro e w1 ⟨rfl, b1⟩
      have HT1 := Lib.hid (HT.out.below b1)
      go_wp2
      go_loopw [5] (fun v wr => ∃ (r : ByteArray) (acc : List UInt8), v = .string r ∧ r.size ≤ 1000000 ∧ Lib.IsBuilderF 37 5 w1.heap.size w1.heap.size (byteCells acc) wr ∧ Below w1.heap.size w1 wr ∧ w1.heap.size < wr.heap.size ∧ acc.length + 4 * r.size ≤ 4000000 ∧ Hid (IsTxt r.data.toList) ∧ Hid ((unj r.data.toList).map (acc ++ ·) = unj t.data.toList)) (fun v _ => strLen v)
      case atStart => exact ⟨t, [], rfl, hts, Lib.IsBuilderF.of (Lib.fresh_isBuilder 37 5 w1), (Below.refl _ w1).alloc (Nat.le_refl _) _, by simp, by simp; omega, HX, by simp [Hid]⟩
      case round =>
        obtain ⟨r, acc, rfl, hr, hI, hbw, hbsz, hal, htx, hac⟩ := hrel
        by_cases hz : r.size = 0
        · obtain rfl := empty_of r hz
          clear hz
          go_wp2_with fail
          refine (sbString w1.heap.size w1.heap.size acc _ hI (by omega)).mono ?_
          rintro e W1 ⟨rfl, _, b2, _⟩
          go_wp2
          go_ret2
          refine UnjOut.good ?_ (b1.trans ((hbw.trans b2).mono b1.size))
          rw [HV.out, ← hac.out]
          show (unj []).map _ = _
          simp [unj_nil]
        · have hp : 0 < r.size := by omega
          clear hz
          have hne := list_ne r hp
          have hne2 : (r.toList == ([] : List UInt8)) = false := by simpa using hne
          have hne3 : (r.toList != ([] : List UInt8)) = true := by simpa using hne
          have hqp := quotedPoint_any r wr hr hp (HT1.out.below hbw)
          have HS := Lib.hid (unj_step r.data.toList (by rw [← Lib.toList_data]; exact hne) htx.out)
          rcases HS.out with ⟨q1, q2⟩ | ⟨p, m, q1, q2, q3, q4, q5, q6⟩
          · have HN := Lib.hid (show unjson s.data.toList = none by rw [HV.out, ← hac.out, q2]; rfl)
            rw [q1, show p0 (-1, 0) = 0 from rfl, show n0 (-1, 0) = 0 from rfl] at hqp
            clear q1 q2 HS
            go_wp2_with fail
            refine hqp.mono ?_
            clear hqp
            rintro e w2 ⟨rfl, b2⟩
            go_wp2
            go_ret2
            exact UnjOut.bad HN.out (b1.trans ((hbw.trans (b2.mono (by omega))).mono b1.size))
          · obtain ⟨g0, g1, g2⟩ := (isPt_iff p).1 q2
            rw [q1, show p0 (p, m) = p from if_neg (by show ¬ p < 0; omega), show n0 (p, m) = m from if_neg (by show ¬ p < 0; omega)] at hqp
            rw [← size_list] at q4
            have H2 := Lib.hid (show (unj (r.extract m r.size).data.toList).map ((acc ++ encodeRune p) ++ ·) = unj t.data.toList by rw [drop_extract, ← map_app, ← q5, hac.out])
            have H3 := Lib.hid (show IsTxt (r.extract m r.size).data.toList by rw [drop_extract]; exact q6)
            have hsz : (r.extract m r.size).size = r.size - m := by simp
            have HZ := Lib.hid hsz
            have hel := (encodeRune_length p).2
            clear q1 q2 q5 q6 HS g2 hsz
            go_wp2_with fail
            refine hqp.mono ?_
            clear hqp
            rintro e w2 ⟨rfl, b2⟩
            have hm0 : ((m : Int) == 0) = false := by rw [beq_eq_false_iff_ne]; omega
            have hI2 := bf_below hI b2
            have hbz := b2.size
            have hr2 := sbRune w1.heap.size w1.heap.size _ p (by omega) (by omega) w2 hI2 (by rw [Lib.byteCells_length]; omega) (by omega)
            rw [byteCells_rune] at hr2
            go_wp2_with fail
            refine hr2.mono ?_
            clear hr2
            rintro e w3 ⟨rfl, h1, b3, k3⟩
            have hbz3 := b3.size
            go_wp2
            go_roundw
            case rel => exact ⟨r.extract m r.size, acc ++ encodeRune p, rfl, by rw [HZ.out]; omega, Or.inr h1, (hbw.trans (b2.mono (by omega))).trans b3, by omega, by rw [List.length_append, HZ.out]; omega, H3, H2⟩
            case measure => show (r.extract m r.size).size < r.size; rw [HZ.out]; omega
end Go.Proofs.YtoddghppbfehpaaDoor
