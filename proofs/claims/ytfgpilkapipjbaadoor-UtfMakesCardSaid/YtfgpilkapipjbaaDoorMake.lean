/-
  The walks of the program's Make and of the document's Cut. Conditions: at most a million code points, texts of at most a million bytes.
-/
import Derived.Test.YtfgpilkapipjbaaDoorKeep
namespace Go.Proofs.YtfgpilkapipjbaaDoor
open Go.RowKit
open Go.Lib

/-- What Make answers. -/
def MakeOut (l : List Int) (w : World) (e : Ending) (w' : World) : Prop :=
  (e = .returned (.tuple #[.string ⟨(if l.all isPt = true then enc l else []).toArray⟩, .int .i64 (if l.all isPt = true then 0 else 2)])) ∧ Below w.heap.size w w'
theorem MakeOut.good {l : List Int} {w w' : World} (h : l.all isPt = true) (hb : Below w.heap.size w w') : MakeOut l w (.returned (.tuple #[.string ⟨(enc l).toArray⟩, .int .i64 0])) w' := by
  unfold MakeOut; rw [if_pos h, if_pos h]; exact ⟨rfl, hb⟩
theorem MakeOut.bad {l : List Int} {w w' : World} (h : l.all isPt = false) (hb : Below w.heap.size w w') : MakeOut l w (.returned (.tuple #[.string ⟨#[]⟩, .int .i64 2])) w' := by
  unfold MakeOut; rw [h]; exact ⟨rfl, hb⟩
set_option maxRecDepth 100000 in
set_option maxHeartbeats 2000000 in
theorem make_any (A : Option Addr) (c : Nat) (l : List Int) (w : World) (hl : l.length ≤ 1000000) (hR : RI w A l) :
    Calls Tryd.prog 17 #[.slice A l.length c] w (MakeOut l w) := by
  go_enter Tryd.func17, Tryd.ntmps17
  go_wp2
  go_loopw [9] (fun i wr => ∃ (k : Nat) (acc : List Int), k ≤ l.length ∧ i = .int .i64 k ∧ Lib.IsBuilderF 40 5 w.heap.size w.heap.size (byteCells (enc acc)) wr ∧ Below w.heap.size w wr ∧ w.heap.size < wr.heap.size ∧ acc.length ≤ k ∧ Hid (acc = l.take k ∧ acc.all isPt = true)) (fun i _ => l.length - (RowKit.intOf i).toNat)
  case atStart => exact ⟨0, [], Nat.zero_le _, rfl, Lib.IsBuilderF.of (Lib.fresh_isBuilder 40 5 w), (Below.refl _ w).alloc (Nat.le_refl _) _, by simp, by simp, by simp [Hid]⟩
  case round =>
    obtain ⟨k, acc, hk, rfl, hI, hbw, hbsz, hal, hac⟩ := hrel
    by_cases hlt : k < l.length
    · obtain ⟨b, off, rfl, hblt, hcell⟩ := hR (by omega)
      have hx := (hbw.cell (p := ⟨b, off + k, none⟩) (by exact hblt)).trans (hcell k hlt)
      have HT := Lib.hid (List.take_succ_eq_append_getElem hlt)
      have HX : l.getD k 0 = l[k] := by simp [List.getD, List.getElem?_eq_getElem hlt]
      rw [HX] at hx
      have HM := Lib.hid (List.getElem_mem hlt)
      generalize l[k] = z at *
      clear hcell HX hR
      have hel := enc_length_le acc
      cases hin : isPt z with
      | true =>
        obtain ⟨z0, z1, z2⟩ := (isPt_iff z).1 hin
        clear z2
        have H2 := Lib.hid (show (acc ++ [z]) = l.take (k + 1) ∧ (acc ++ [z]).all isPt = true by rw [HT.out, ← hac.out.1, List.all_append, hac.out.2]; simp [hin])
        have hr := sbRune w.heap.size w.heap.size _ z (by omega) (by omega) wr hI (by rw [Lib.byteCells_length]; omega) (by omega)
        rw [byteCells_enc] at hr
        go_wp2_with (go_at_call 29; refine (isPoint_any _ _).mono ?_; rintro e w' ⟨rfl, rfl⟩)
        refine hr.mono ?_
        clear hr
        rintro e W1 ⟨rfl, h1, b1, k1⟩
        have := b1.size
        clear hin hI
        go_wp2
        go_roundw
        case rel => exact ⟨k + 1, _, by omega, by go_num, Or.inr h1, hbw.trans b1, by omega, by simp; omega, H2⟩
        case measure => simp [RowKit.intOf]; omega
      | false =>
        have HB := Lib.hid (show l.all isPt = false by
          rw [Bool.eq_false_iff]; intro h; have := List.all_eq_true.1 h z HM.out; rw [hin] at this; cases this)
        go_wp2_with (go_at_call 29; refine (isPoint_any _ _).mono ?_; rintro e w' ⟨rfl, rfl⟩)
        go_ret2
        exact MakeOut.bad HB.out hbw
    · have HA := Lib.hid (show acc = l ∧ l.all isPt = true by
        have := hac.out
        rw [List.take_of_length_le (by omega)] at this
        exact ⟨this.1, this.1 ▸ this.2⟩)
      go_wp2_with fail
      refine (sbString w.heap.size w.heap.size (enc acc) _ hI (by omega)).mono ?_
      rintro e W1 ⟨rfl, _, b1, _⟩
      go_wp2
      go_ret2
      rw [HA.out.1]
      exact MakeOut.good HA.out.2 (hbw.trans b1)

/-- The first m numbers of a list behind an empty one of the call's own. -/
theorem appSlice {ops : Array Oper} {rest : List Oper} {o : Oper} {a : Act} {Q : Exit → Act → World → Prop} (hgd : o.guard = none) (s x : Operand)
    (ho : o.op = .call { callee := .builtin .append, args := #[s, x], argTypes := #[25, 25] }) (w : World) (b off c m : Nat) (zs : List Int)
    (hs : a.eval s = .slice (some ⟨w.heap.size, 0, none⟩) 0 0) (hx : a.eval x = .slice (some ⟨b, off, none⟩) m c) (hm : m ≤ zs.length) (hz : zs.length ≤ 1000000) (hblt : b < w.heap.size)
    (hcell : ∀ j, j < zs.length → w.cell? ⟨b, off + j, none⟩ = some (.int .i64 (zs.getD j 0)))
    (h : ∀ v' w', OwnI w' w.heap.size v' (zs.take m) → Below w.heap.size w w' → wpList Tryd.prog ops Q rest (a.put o.dst v') w') :
    wpList Tryd.prog ops Q (o :: rest) a (w.alloc (.cells #[] 3)) := by
  obtain ⟨i0, hi, hz0, hz1, hz2⟩ := info_parts Tryd.info3
  have hl : (zs.take m).length = m := by rw [List.length_take]; omega
  refine wpList_append_own _ hgd s x 25 ho w.heap.size 3 i0 (.int .i64 0) 1 8 Tryd.underlying25 hi hz0 hz1 hz2 rfl (by decide) (.slice (some ⟨w.heap.size, 0, none⟩) 0 0) 0 [] hs (World.ownsRow_made w #[] 0 (Nat.le_refl _) (by unfold maxLen; omega) (by simp)) ⟨b, off, none⟩ m c ((zs.take m).map (Value.int .i64)) hx (by rw [List.length_map, hl, Nat.mul_one]) ?_ ?_ (by unfold maxLen; omega) (by omega) (by simp) ?_
  · intro j u hj
    have hjm : j < m := by
      have := (List.getElem?_eq_some_iff.1 hj).1
      rw [List.length_map, hl] at this
      exact this
    have e : (⟨b, off, none⟩ : Addr).add j = ⟨b, off + j, none⟩ := by unfold Addr.add; split <;> simp_all
    rw [e, World.cell?_alloc_lt _ _ _ hblt, hcell j (by omega)]
    rw [List.getElem?_map, List.getElem?_take_of_lt hjm, List.getElem?_eq_getElem (by omega)] at hj
    simp at hj
    rw [← hj]
    simp [List.getD, List.getElem?_eq_getElem (show j < zs.length by omega)]
  · intro u hu
    obtain ⟨z, _, rfl⟩ := List.mem_map.1 hu
    rfl
  · intro v' w' hown hg _
    refine h v' w' ?_ (((Below.refl _ w).alloc (Nat.le_refl _) _).grown hg (by simp) (fun k hk => ?_))
    · unfold OwnI
      rw [hl]
      simpa using hown
    · have : w.heap.size = k := by simpa [Value.ownBlock] using hk
      omega
/-- What is left of a cut. -/
def cutOf (l : List Int) (n : Int) : List Int := if n < 1 then [] else if n < l.length then l.take (n - 1).toNat ++ [8230] else l
theorem cut_allPt {l : List Int} (n : Int) (h : AllPt l) : AllPt (cutOf l n) := by
  unfold cutOf
  split
  · intro p hp; cases hp
  · split
    · intro p hp
      rcases List.mem_append.1 hp with hp | hp
      · exact h p (List.mem_of_mem_take hp)
      · rw [List.mem_singleton] at hp; subst hp; rfl
    · exact h
set_option maxRecDepth 100000 in
set_option maxHeartbeats 2000000 in
theorem rcut_any (s : ByteArray) (n : Int) (w : World) (hs : s.size ≤ 1000000) :
    Calls Tryd.prog 26 #[.string s, .int .i64 n] w fun e w' => e = .returned (.string ⟨(enc (cutOf (pts s.data.toList) n)).toArray⟩) ∧ Below w.heap.size w w' := by
  have hL := pts_length_le s.data.toList
  have hL : (pts s.data.toList).length ≤ 1000000 := by simp at hL; omega
  have hc := rfixed_any s w hs
  have HP := Lib.hid (pts_allPt s.data.toList)
  generalize pts s.data.toList = zs at *
  have HCP := Lib.hid (cut_allPt n HP.out)
  by_cases h1 : n < 1
  · have HC := Lib.hid (show cutOf zs n = [] by unfold cutOf; rw [if_pos h1])
    go_enter Tryd.func26, Tryd.ntmps26
    go_wp2_with fail
    refine hc.mono ?_
    clear hc
    rintro e w1 ⟨A, c, rfl, hcap, hR, hbw1⟩
    go_wp2
    go_ret
    rw [HC.out]
    exact ⟨rfl, hbw1⟩
  by_cases h2 : n < zs.length
  · obtain ⟨m, rfl⟩ : ∃ m : Nat, n = (m : Int) + 1 := ⟨(n - 1).toNat, by omega⟩
    have HC := Lib.hid (show cutOf zs ((m : Int) + 1) = zs.take m ++ [8230] by unfold cutOf; rw [if_neg h1, if_pos h2]; congr 2; omega)
    have HCP2 := Lib.hid (show AllPt (zs.take m ++ [8230]) by rw [← HC.out]; exact HCP.out)
    have hm : m + 1 < zs.length := by omega
    go_enter Tryd.func26, Tryd.ntmps26
    go_wp2_with fail
    refine hc.mono ?_
    clear hc
    rintro e w1 ⟨A, c, rfl, hcap, hR, hbw1⟩
    obtain ⟨b, off, rfl, hblt, hcell⟩ := hR (by omega)
    clear hR
    go_wp2_with (at_builtin; refine appSlice rfl (.tmp 14) (.tmp 18) rfl w1 b off c m zs rfl rfl (by omega) hL hblt hcell ?_)
    intro v' w2 hown hb2
    have hbs := hb2.size
    clear hcell
    go_wp2_with (at_builtin; refine app1 rfl (.tmp 19) (.tmp 20) rfl w2 w1 w1.heap.size w1.heap.size _ (zs.take m) _ rfl (by exact hown) rfl (by rw [List.length_take]; omega) hbs (Nat.le_refl _) hb2 ?_)
    intro v2 w3 hown2 hb3
    clear hown
    have HL := Lib.hid (show (zs.take m ++ [8230]).length ≤ 10000000 by rw [List.length_append, List.length_take]; simp; omega)
    generalize zs.take m ++ [8230] = ys at *
    obtain ⟨A', c', rfl, hcc, hRy⟩ := RI.of_own hown2
    have ht := text_any A' c' ys w3 HL.out HCP2.out hRy
    clear hRy hown2
    go_wp2_with fail
    refine ht.mono ?_
    clear ht
    rintro e w4 ⟨rfl, hb4⟩
    go_wp2
    go_ret
    rw [HC.out]
    exact ⟨rfl, hbw1.trans ((hb3.mono hbw1.size).trans (hb4.mono (by have := hbw1.size; have := hb3.size; omega)))⟩
  · have HC := Lib.hid (show cutOf zs n = zs by unfold cutOf; rw [if_neg h1, if_neg h2])
    go_enter Tryd.func26, Tryd.ntmps26
    go_wp2_with fail
    refine hc.mono ?_
    clear hc
    rintro e w1 ⟨A, c, rfl, hcap, hR, hbw1⟩
    have ht := text_any A c zs w1 (by omega) HP.out hR
    clear hR
    go_wp2_with fail
    refine ht.mono ?_
    clear ht
    rintro e w4 ⟨rfl, hb4⟩
    go_wp2
    go_ret
    rw [HC.out]
    exact ⟨rfl, hbw1.trans (hb4.mono hbw1.size)⟩
end Go.Proofs.YtfgpilkapipjbaaDoor
