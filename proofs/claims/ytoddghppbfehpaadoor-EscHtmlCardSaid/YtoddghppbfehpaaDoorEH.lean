/-
  The walks of package esc's named and reference. Conditions: texts of at most a million bytes.
-/
import Derived.Test.YtoddghppbfehpaaDoorEG
namespace Go.Proofs.YtoddghppbfehpaaDoor
open Go.RowKit
open Go.Lib

/-- The text that a name stands for; empty: none. -/
def namedL (l : List UInt8) : List UInt8 := if nameP l = -1 then [] else encodeRune (nameP l)
def NamedOut (l : List UInt8) (w : World) (e : Ending) (w' : World) : Prop := e = .returned (.string ⟨(namedL l).toArray⟩) ∧ Below w.heap.size w w'
theorem NamedOut.mk {l r : List UInt8} {w w' : World} (h : namedL l = r) (hb : Below w.heap.size w w') : NamedOut l w (.returned (.string ⟨r.toArray⟩)) w' := by subst h; exact ⟨rfl, hb⟩
theorem numI_bd (l : List UInt8) : -1 ≤ numI l ∧ numI l ≤ 268435455 := by
  have key : ∀ (base : Int) (m : Nat) (ds : List UInt8), 0 ≤ base → base ≤ 16 → m ≤ 7 → -1 ≤ numP base m ds ∧ numP base m ds ≤ 268435455 := by
    intro base m ds h0 h1 h2
    unfold numP
    split
    · omega
    · rename_i h
      have h3 : ds.length ≤ m := by
        apply Decidable.byContradiction; intro hh; exact h (.inr (.inl (by omega)))
      have h4 : ds.all (isD base) = true := by
        cases hh : ds.all (isD base) with
        | true => rfl
        | false => exact absurd (.inr (.inr hh)) h
      have := valD_bd base h0 h1 ds (by omega) h4
      omega
  unfold numI
  split
  · unfold sharp
    split
    · exact key 16 6 _ (by omega) (by omega) (by omega)
    · exact key 10 7 _ (by omega) (by omega) (by omega)
  · omega
theorem nameP_num (l : List UInt8) (h1 : l ≠ [97, 109, 112]) (h2 : l ≠ [108, 116]) (h3 : l ≠ [103, 116]) (h4 : l ≠ [113, 117, 111, 116]) (h5 : l ≠ [97, 112, 111, 115]) : nameP l = chk (numI l) := by
  unfold nameP
  rw [if_neg h1, if_neg h2, if_neg h3, if_neg h4, if_neg h5]
  unfold numI
  split
  · rfl
  · rfl
theorem namedL_low (l : List UInt8) (h : nameP l = chk (numI l)) (hn : numI l < 1) : namedL l = [] := by
  unfold namedL; rw [h, if_pos]; unfold chk; rw [if_neg (by omega)]
theorem namedL_num (l : List UInt8) (h : nameP l = chk (numI l)) (hn : 1 ≤ numI l) : namedL l = if [numI l].all isPt = true then enc [numI l] else [] := by
  unfold namedL
  rw [h]
  cases hp : isPt (numI l) with
  | true =>
    have hk : chk (numI l) = numI l := by unfold chk; rw [if_pos ⟨hn, hp⟩]
    rw [hk, if_neg (by omega)]; simp [hp, enc]
  | false =>
    have hk : chk (numI l) = -1 := by unfold chk; rw [if_neg (by rw [hp]; simp)]
    rw [hk, if_pos rfl]; simp [hp]
theorem bytes_eq (s : ByteArray) (l : List UInt8) (h : s.data.toList = l) : s = ⟨l.toArray⟩ := by
  subst h; rfl
theorem RI_one (w : World) (z : Int) : RI (w.alloc (.cells #[.int .i64 z] 3)) (some ⟨w.heap.size, 0, none⟩) [z] := fun _ =>
  ⟨w.heap.size, 0, rfl, by simp, fun j hj => by
    have : j = 0 := by simp at hj; omega
    subst this
    rw [World.cell?_alloc_at _ _ _ _ rfl]; rfl⟩
set_option maxRecDepth 100000 in
theorem named_any (s : ByteArray) (w : World) (hs : s.size ≤ 1000000) : Calls Tryd.prog 48 #[.string s] w (NamedOut s.data.toList w) := by
  by_cases h1 : s.data.toList = [97, 109, 112]
  · obtain rfl := bytes_eq s _ h1
    clear h1
    go_enter Tryd.func48, Tryd.ntmps48
    go_wp2
    go_ret
    exact NamedOut.mk (r := [38]) (by decide +kernel) (Below.refl _ _)
  by_cases h2 : s.data.toList = [108, 116]
  · obtain rfl := bytes_eq s _ h2
    clear h1 h2
    go_enter Tryd.func48, Tryd.ntmps48
    go_wp2
    go_ret
    exact NamedOut.mk (r := [60]) (by decide +kernel) (Below.refl _ _)
  by_cases h3 : s.data.toList = [103, 116]
  · obtain rfl := bytes_eq s _ h3
    clear h1 h2 h3
    go_enter Tryd.func48, Tryd.ntmps48
    go_wp2
    go_ret
    exact NamedOut.mk (r := [62]) (by decide +kernel) (Below.refl _ _)
  by_cases h4 : s.data.toList = [113, 117, 111, 116]
  · obtain rfl := bytes_eq s _ h4
    clear h1 h2 h3 h4
    go_enter Tryd.func48, Tryd.ntmps48
    go_wp2
    go_ret
    exact NamedOut.mk (r := [34]) (by decide +kernel) (Below.refl _ _)
  by_cases h5 : s.data.toList = [97, 112, 111, 115]
  · obtain rfl := bytes_eq s _ h5
    clear h1 h2 h3 h4 h5
    go_enter Tryd.func48, Tryd.ntmps48
    go_wp2
    go_ret
    exact NamedOut.mk (r := [39]) (by decide +kernel) (Below.refl _ _)
  have HN := Lib.hid (nameP_num _ h1 h2 h3 h4 h5)
  rw [← Lib.toList_data] at h1 h2 h3 h4 h5
  have b1 : (s.toList == ([97, 109, 112] : List UInt8)) = false := by simpa using h1
  have b2 : (s.toList == ([108, 116] : List UInt8)) = false := by simpa using h2
  have b3 : (s.toList == ([103, 116] : List UInt8)) = false := by simpa using h3
  have b4 : (s.toList == ([113, 117, 111, 116] : List UInt8)) = false := by simpa using h4
  have b5 : (s.toList == ([97, 112, 111, 115] : List UInt8)) = false := by simpa using h5
  clear h1 h2 h3 h4 h5
  have hn := numbered_any s w hs
  have hbd := numI_bd s.data.toList
  by_cases hlt : numI s.data.toList < 1
  · have HV := Lib.hid (namedL_low _ HN.out hlt)
    generalize numI s.data.toList = n at *
    go_enter Tryd.func48, Tryd.ntmps48
    go_wp2_with fail
    refine hn.mono ?_
    clear hn
    rintro e w' ⟨rfl, rfl⟩
    go_wp2
    go_ret
    exact NamedOut.mk (r := []) HV.out (Below.refl _ _)
  · have hge : 1 ≤ numI s.data.toList := by omega
    have HV := Lib.hid (namedL_num _ HN.out hge)
    clear hlt
    generalize numI s.data.toList = n at *
    have hm := make_any (some ⟨w.heap.size, 0, none⟩) 1 [n] (w.alloc (.cells #[.int .i64 n] 3)) (by simp) (RI_one w n)
    rw [show [n].length = 1 from rfl] at hm
    unfold MakeOut at hm
    generalize (if [n].all isPt = true then enc [n] else []) = r at *
    generalize (if [n].all isPt = true then (0 : Int) else 2) = q at *
    go_enter Tryd.func48, Tryd.ntmps48
    go_wp2_with fail
    refine hn.mono ?_
    clear hn
    rintro e w' ⟨rfl, rfl⟩
    go_wp2_with fail
    refine hm.mono ?_
    clear hm
    rintro e w1 ⟨rfl, hb⟩
    go_wp2
    go_ret
    exact NamedOut.mk HV.out (((Below.refl _ w).alloc (Nat.le_refl _) _).trans (hb.mono (by simp)))

/-- What the ampersand ahead of these bytes stands for, and how many of them belong to it. -/
def refT (l : List UInt8) : List UInt8 := if (refQ l).1 < 0 then [38] else encodeRune (refQ l).1
def refW (l : List UInt8) : Nat := if (refQ l).1 < 0 then 0 else (refQ l).2 - 1
def RefOut (l : List UInt8) (w : World) (e : Ending) (w' : World) : Prop := e = .returned (.tuple #[.string ⟨(refT l).toArray⟩, .int .i64 (refW l)]) ∧ Below w.heap.size w w'
theorem RefOut.mk {l t : List UInt8} {n : Nat} {w w' : World} (h : refT l = t) (h2 : refW l = n) (hb : Below w.heap.size w w') : RefOut l w (.returned (.tuple #[.string ⟨t.toArray⟩, .int .i64 n])) w' := by subst h; subst h2; exact ⟨rfl, hb⟩
theorem ref_none (l : List UInt8) (h : (59 : UInt8) ∉ l.take 9) : refT l = [38] ∧ refW l = 0 := by
  unfold refT refW; rw [refQ_none l h]; exact ⟨rfl, rfl⟩
theorem nameP_neg (nm : List UInt8) : nameP nm = -1 ∨ 1 ≤ nameP nm := by
  unfold nameP
  repeat' split
  all_goals first | (exact .inl rfl) | (right; decide) | skip
  unfold chk
  split
  · right; omega
  · left; rfl
theorem ref_name (nm t : List UInt8) (h : (59 : UInt8) ∉ nm) : (namedL nm = [] ∧ refT (nm ++ 59 :: t) = [38] ∧ refW (nm ++ 59 :: t) = 0) ∨ (namedL nm ≠ [] ∧ refT (nm ++ 59 :: t) = namedL nm ∧ refW (nm ++ 59 :: t) = nm.length + 1) := by
  have hq := refQ_name nm t h
  unfold namedL refT refW
  rcases nameP_neg nm with e | e
  · left; rw [hq, e]; exact ⟨rfl, rfl, rfl⟩
  · right
    rw [if_neg (by omega)] at hq
    rw [hq, if_neg (by omega)]
    refine ⟨?_, ?_, ?_⟩
    · intro hh; have := (encodeRune_length (nameP nm)).1; rw [hh] at this; simp at this
    · rw [if_neg]; simp only; omega
    · rw [if_neg]
      · simp
      · simp only; omega
theorem take_split (l : List UInt8) (i n : Nat) (c : UInt8) (h : l.take n = (l.take n).take i ++ c :: (l.take n).drop (i + 1)) (hi : i < n) : l = l.take i ++ c :: l.drop (i + 1) := by
  have e : (l.take n).take i = l.take i := by rw [List.take_take]; congr 1; omega
  have hl : i < (l.take n).length := by
    have := congrArg List.length h
    rw [List.length_append, List.length_cons, List.length_take (l := l.take n), List.length_drop] at this
    omega
  have hl2 : i < l.length := by rw [List.length_take] at hl; omega
  have hg : (l.take n)[i]? = some c := by
    rw [h, List.getElem?_append_right (by rw [List.length_take]; omega), List.length_take, Nat.min_eq_left (by omega)]; simp
  rw [List.getElem?_take_of_lt hi] at hg
  have hg2 : l[i] = c := by rw [List.getElem?_eq_getElem hl2] at hg; exact Option.some.inj hg
  have := List.drop_eq_getElem_cons hl2
  rw [hg2] at this
  rw [← this, List.take_append_drop]
set_option maxRecDepth 100000 in
theorem reference_any (s : ByteArray) (w : World) (hs : s.size ≤ 1000000) : Calls Tryd.prog 29 #[.string s] w (RefOut s.data.toList w) := by
  obtain ⟨m, hm⟩ : ∃ m : Nat, m = min s.size 9 := ⟨_, rfl⟩
  have hm1 : m ≤ s.size := by omega
  have hm2 : m ≤ 9 := by omega
  have hmin : min (s.size : Int) 9 = (m : Int) := by omega
  have HT := Lib.hid (show (s.extract 0 m).data.toList = s.data.toList.take 9 by
    rw [take_extract, hm, Nat.min_def]
    split
    · rw [List.take_of_length_le (by rw [← size_list]; omega), List.take_of_length_le (by rw [← size_list]; omega)]
    · rfl)
  have hts : (s.extract 0 m).size ≤ 9 := by simp; omega
  have hts2 : (s.extract 0 m).size ≤ s.size := by simp; omega
  clear hm
  generalize hti : s.extract 0 m = t at *
  rcases index_or t.data.toList 59 with hi | ⟨i, hi⟩
  · have HV := Lib.hid (ref_none s.data.toList (by rw [← HT.out]; exact index_not hi))
    have hc := cut_go t 59 _ _ _ w (scut_no t 59 w hi)
    clear hi
    go_enter Tryd.func29, Tryd.ntmps29
    go_wp2_with fail
    refine hc.mono ?_
    clear hc
    rintro e w1 ⟨rfl, b1⟩
    go_wp2
    go_ret2
    exact RefOut.mk (t := [38]) (n := 0) HV.out.1 HV.out.2 b1
  · have hc := cut_go t 59 _ _ _ w (scut_yes t 59 i w (by omega) hi)
    obtain ⟨i1, i2, i3⟩ := index_at hi
    have i4 : i < 9 := by omega
    rw [HT.out] at i2 i3
    have hsp := take_split s.data.toList i 9 59 i2 i4
    have i5 : (s.data.toList.take 9).take i = s.data.toList.take i := by rw [List.take_take]; congr 1; omega
    rw [i5] at i3
    have hr := ref_name (s.data.toList.take i) (s.data.toList.drop (i + 1)) i3
    rw [← hsp] at hr
    have hnm : (t.extract 0 i).data.toList = s.data.toList.take i := by rw [take_extract, HT.out, i5]
    have hln : (s.data.toList.take i).length = i := by rw [List.length_take, ← size_list]; omega
    have hna := fun W => named_any (t.extract 0 i) W (by simp; omega)
    rw [hnm] at hna
    rw [hln] at hr
    have hsz : (t.extract 0 i).size = i := by simp; omega
    have HSZ := Lib.hid hsz
    clear hi i2 i3 i5 hsp hnm hln hsz
    unfold NamedOut at hna
    generalize t.extract (i + 1) t.size = t2 at *
    generalize t.extract 0 i = t1 at *
    rcases hr with ⟨r1, r2, r3⟩ | ⟨r1, r2, r3⟩
    · rw [r1] at hna
      have HV := Lib.hid r2
      have HW := Lib.hid r3
      clear r1 r2 r3
      go_enter Tryd.func29, Tryd.ntmps29
      go_wp2_with fail
      refine hc.mono ?_
      clear hc
      rintro e w1 ⟨rfl, b1⟩
      have hn1 := hna w1
      clear hna
      go_wp2_with fail
      refine hn1.mono ?_
      clear hn1
      rintro e w2 ⟨rfl, b2⟩
      go_wp2
      go_ret2
      exact RefOut.mk (t := [38]) (n := 0) HV.out HW.out (b1.trans (b2.mono b1.size))
    · obtain ⟨tx, htx⟩ : ∃ tx : ByteArray, tx = ⟨(namedL (s.data.toList.take i)).toArray⟩ := ⟨_, rfl⟩
      rw [← htx] at hna
      have hne : (tx.toList == ([] : List UInt8)) = false := by rw [Lib.toList_data, htx]; simpa using r1
      have HV := Lib.hid (show refT s.data.toList = tx.data.toList by rw [r2, htx])
      have HW := Lib.hid r3
      clear r1 r2 r3 htx
      go_enter Tryd.func29, Tryd.ntmps29
      go_wp2_with fail
      refine hc.mono ?_
      clear hc
      rintro e w1 ⟨rfl, b1⟩
      have hn1 := hna w1
      clear hna
      go_wp2_with fail
      refine hn1.mono ?_
      clear hn1
      rintro e w2 ⟨rfl, b2⟩
      have hsz := HSZ.out
      go_wp2
      go_ret2
      exact RefOut.mk (t := tx.data.toList) (n := i + 1) HV.out HW.out (b1.trans (b2.mono b1.size))
end Go.Proofs.YtoddghppbfehpaaDoor
