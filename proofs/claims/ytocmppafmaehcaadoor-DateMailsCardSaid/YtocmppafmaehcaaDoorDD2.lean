/-
  The walks of the reader's skipFraction, mailYear, mailZone. Conditions: as each says.
-/
import Derived.Test.YtocmppafmaehcaaDoorDD
namespace Go.Proofs.YtocmppafmaehcaaDoor
open Go.RowKit
open Go.Lib

def SkipOut (b : Nat) (bad : Bool) (l : List UInt8) (o : Bool) (w : World) (e : Ending) (w' : World) : Prop :=
  ∃ s', e = .returned (.tuple #[]) ∧ s'.data.toList = l ∧ Rd b s' (bad || !o) w' ∧ w.grownBy w' (some b)
theorem digs_isDg (c : UInt8) : ([48, 49, 50, 51, 52, 53, 54, 55, 56, 57] : List UInt8).contains c = isDg c := by
  rw [Bool.eq_iff_iff]
  simp only [List.contains_iff_mem, List.mem_cons, List.not_mem_nil, or_false, isDg, decide_eq_true_eq, ← UInt8.toNat_inj, UInt8.reduceToNat]
  omega
theorem trim_digs (l : List UInt8) : trimLeftS l [48, 49, 50, 51, 52, 53, 54, 55, 56, 57] = l.dropWhile isDg := by
  unfold trimLeftS
  congr 1
  funext c
  exact digs_isDg c
theorem dropWhile_le (l : List UInt8) : (l.dropWhile isDg).length ≤ l.length := (List.dropWhile_suffix isDg).length_le
set_option maxRecDepth 100000 in
set_option maxHeartbeats 1000000 in
theorem skip_any (b : Nat) (s : ByteArray) (bad : Bool) (w : World) (hr : Rd b s bad w) :
    Calls Tryd.prog 44 #[.pointer (some ⟨b, 0, none⟩)] w (SkipOut b bad (skipF s.data.toList).1 (skipF s.data.toList).2 w) := by
  have hh := has_any b w.heap.size 1 [⟨#[46]⟩] s bad _ (hr.alloc (.cells #[.string ⟨#[46]⟩] 9)) (rt1 _ _ _) (by simp) _ rfl
  change Calls _ _ _ _ (HasOut b bad [[46]] s.data.toList _) at hh
  unfold HasOut at hh
  cases hk : tkB [[46]] s.data.toList with
  | false =>
    rw [hk] at hh
    have HS := Lib.hid (show skipF s.data.toList = (s.data.toList, true) by unfold skipF; rw [hk]; rfl)
    have HT := Lib.hid ((tk_neg [[46]] s.data.toList).2 hk).2
    rw [HS.out]
    clear hk
    go_enter Tryd.func44, Tryd.ntmps44
    go_wp2_with fail
    refine hh.mono ?_
    clear hh
    rintro e w1 ⟨s1, rfl, h1, r1, g1⟩
    have H1 := Lib.hid (h1.trans HT.out)
    clear h1
    go_wp2
    go_end0
    exact ⟨s1, rfl, H1.out, by simpa using r1, (grown_alloc w _ (some b)).trans g1⟩
  | true =>
    rw [hk] at hh
    have HS := Lib.hid (show skipF s.data.toList = ((tkL [[46]] s.data.toList).dropWhile isDg, decide (((tkL [[46]] s.data.toList).dropWhile isDg).length < (tkL [[46]] s.data.toList).length)) by unfold skipF; rw [hk]; rfl)
    clear hk
    rw [HS.out]
    generalize tkL [[46]] s.data.toList = l1 at *
    go_enter Tryd.func44, Tryd.ntmps44
    go_wp2_with fail
    refine hh.mono ?_
    clear hh
    rintro e w1 ⟨s1, rfl, h1, r1, g1⟩
    have HT := Lib.hid (show trimLeftS s1.data.toList [48, 49, 50, 51, 52, 53, 54, 55, 56, 57] = l1.dropWhile isDg by rw [h1]; exact trim_digs l1)
    have hsz : s1.size = l1.length := by rw [size_list, h1]
    clear h1
    have G1 := (grown_alloc w _ (some b)).trans g1
    have c1 := r1.left
    have ht := libTrimLeft s1 ⟨#[48, 49, 50, 51, 52, 53, 54, 55, 56, 57]⟩ w1 (by decide) (ascii_of_all (by decide))
    change Calls _ _ _ _ (fun e w' => e = .returned (.string ⟨(trimLeftS s1.data.toList [48, 49, 50, 51, 52, 53, 54, 55, 56, 57]).toArray⟩) ∧ Below w1.heap.size w1 w') at ht
    rw [HT.out] at ht
    obtain ⟨q, hq⟩ : ∃ q : ByteArray, q = ⟨(l1.dropWhile isDg).toArray⟩ := ⟨_, rfl⟩
    rw [← hq] at ht
    have HQ := Lib.hid (show q.data.toList = l1.dropWhile isDg by rw [hq])
    have hqs : q.size = (l1.dropWhile isDg).length := by rw [size_list, HQ.out]
    clear hq
    have HSZ := Lib.hid hsz
    have HQS := Lib.hid hqs
    clear hsz hqs
    go_wp2_with fail
    refine ht.mono ?_
    clear ht
    rintro e w2 ⟨rfl, b2⟩
    clear c1
    have r2 := r1.below b2
    have G2 := G1.trans (grown_below b2 (some b))
    have c2 := r2.left
    clear r1 G1 b2 g1
    by_cases hlt : q.size < s1.size
    · have HD := Lib.hid (show decide ((l1.dropWhile isDg).length < l1.length) = true by rw [← HQS.out, ← HSZ.out]; simpa using hlt)
      go_wp2_with fail
      refine (need_any b s1 bad true w2 r2).mono ?_
      rintro e w3 ⟨rfl, r3, g3⟩
      have c3 := r3.left
      have f3 := r3.free 0
      go_wp2
      go_end0
      refine ⟨q, rfl, HQ.out, ?_, (G2.trans g3).trans (grown_set _ _ _ _)⟩
      rw [HD.out]
      exact r3.set0 q
    · have HD := Lib.hid (show decide ((l1.dropWhile isDg).length < l1.length) = false by rw [← HQS.out, ← HSZ.out]; simpa using hlt)
      have dlt : decide (q.size < s1.size) = false := by simpa using hlt
      go_wp2_with fail
      refine (need_any b s1 bad false w2 r2).mono ?_
      rintro e w3 ⟨rfl, r3, g3⟩
      have c3 := r3.left
      have f3 := r3.free 0
      go_wp2
      go_end0
      refine ⟨q, rfl, HQ.out, ?_, (G2.trans g3).trans (grown_set _ _ _ _)⟩
      rw [HD.out]
      exact r3.set0 q
/-- The year of a mail's date. -/
theorem yearF_bd (l : List UInt8) : 0 ≤ (yearF l).1 ∧ (yearF l).1 ≤ 12000 := by
  have h := digF_bd 2 4 l
  unfold yearF
  generalize digF 2 4 l = f at *
  obtain ⟨⟨y, k⟩, l1, o⟩ := f
  have h0 : 0 ≤ y := h.1
  have h1 : y ≤ 9999 := h.2.1
  show 0 ≤ (if k = 3 then (y, l1, false) else if k = 2 then (if y < 50 then (y + 2000, l1, o) else (y + 1900, l1, o)) else (y, l1, o)).1 ∧ (if k = 3 then (y, l1, false) else if k = 2 then (if y < 50 then (y + 2000, l1, o) else (y + 1900, l1, o)) else (y, l1, o)).1 ≤ 12000
  repeat' split
  all_goals (constructor <;> simp <;> omega)
set_option maxRecDepth 100000 in
set_option maxHeartbeats 1000000 in
theorem mailYear_any (b : Nat) (s : ByteArray) (bad : Bool) (w : World) (hr : Rd b s bad w) :
    Calls Tryd.prog 51 #[.pointer (some ⟨b, 0, none⟩)] w (StepI b bad (yearF s.data.toList) w) := by
  have hd := digits_any b s bad 2 4 w (by omega) hr
  have hb := digF_bd 2 4 s.data.toList
  obtain ⟨f, hf⟩ : ∃ f, yearF s.data.toList = f := ⟨_, rfl⟩
  rw [hf]
  unfold yearF at hf
  unfold StepD at hd
  generalize digF 2 4 s.data.toList = g at *
  obtain ⟨⟨y, k⟩, l1, o⟩ := g
  have y0 : 0 ≤ y := hb.1
  have y1 : y ≤ 9999 := hb.2.1
  change (if k = 3 then (y, l1, false) else if k = 2 then (if y < 50 then (y + 2000, l1, o) else (y + 1900, l1, o)) else (y, l1, o)) = f at hf
  clear hb
  by_cases k3 : k = 3
  · rw [if_pos k3] at hf
    subst hf k3
    go_enter Tryd.func51, Tryd.ntmps51
    go_wp2_with fail
    refine hd.mono ?_
    clear hd
    rintro e w1 ⟨s1, rfl, h1, r1, g1⟩
    have H1 := Lib.hid h1
    clear h1
    have m1 := r1.mark
    have f1 := r1.free 1
    go_wp2
    go_ret
    exact ⟨s1, rfl, H1.out, by simpa using r1.set1 true, g1.trans (grown_set _ _ _ _)⟩
  rw [if_neg k3] at hf
  have t3 : (k == 3) = false := by simpa using k3
  clear k3
  by_cases k2 : k = 2
  · rw [if_pos k2] at hf
    by_cases hy : y < 50
    · rw [if_pos hy] at hf
      subst hf k2
      go_enter Tryd.func51, Tryd.ntmps51
      go_wp2_with fail
      refine hd.mono ?_
      clear hd
      rintro e w1 ⟨s1, rfl, h1, r1, g1⟩
      have H1 := Lib.hid h1
      clear h1
      go_wp2
      go_ret
      exact ⟨s1, rfl, H1.out, r1, g1⟩
    · rw [if_neg hy] at hf
      subst hf k2
      have dy : decide (y < 50) = false := by simpa using hy
      go_enter Tryd.func51, Tryd.ntmps51
      go_wp2_with fail
      refine hd.mono ?_
      clear hd
      rintro e w1 ⟨s1, rfl, h1, r1, g1⟩
      have H1 := Lib.hid h1
      clear h1
      go_wp2
      go_ret
      exact ⟨s1, rfl, H1.out, r1, g1⟩
  · rw [if_neg k2] at hf
    subst hf
    have t2 : (k == 2) = false := by simpa using k2
    clear k2
    go_enter Tryd.func51, Tryd.ntmps51
    go_wp2_with fail
    refine hd.mono ?_
    clear hd
    rintro e w1 ⟨s1, rfl, h1, r1, g1⟩
    have H1 := Lib.hid h1
    clear h1
    go_wp2
    go_ret
    exact ⟨s1, rfl, H1.out, r1, g1⟩
end Go.Proofs.YtocmppafmaehcaaDoor
