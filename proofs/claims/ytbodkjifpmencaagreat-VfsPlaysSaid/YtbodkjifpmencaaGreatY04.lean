/-
  The walk of package vfs's change. Conditions: a disk of a modest size, right paths.
-/
import Derived.Test.YtbodkjifpmencaaGreatY03
namespace Go.Proofs.YtbodkjifpmencaaGreat
open Go.RowKit
open Go.Lib

theorem clone_any (s : ByteArray) (w : World) (hs : s.size ≤ 1000000) : Calls Tryz.prog 39 #[.string s] w fun e w' => e = .returned (.string s) ∧ Below w.heap.size w w' := by
  go_enter Tryz.func39, Tryz.ntmps39
  go_wp2_with (go_at_call 64; refine (libClone _ _ (by omega)).mono ?_; rintro e w' ⟨rfl, hb⟩)
  go_ret
  exact ⟨rfl, hb⟩
theorem zeroS (w : World) : (zeroValue 87).run Tryz.prog w = .ok (.slice none 0 0) w := by kernel_rfl
theorem dir_len (p : Bs) : (dirL p).length ≤ p.length := by
  unfold dirL
  cases h : cutS p with
  | none => simp
  | some q => obtain ⟨a, b⟩ := q; have := cutS_len h; simp; omega
def applyQ (_L : Lay) (q : Q) (f t : ByteArray) (o : Option Nat) : Q := { q with names := applyN ⟨f.data.toList, t.data.toList, o⟩ q.names }
/-- Names, when one has changed. -/
theorem apply_names {L : Lay} {q : Q} {w : World} (H : QD L q w) {N : Nat} (hS : Small N q) (hN : N ≤ 1048576) (f t : ByteArray) (o : Option Nat) (hf : f.size ≤ 161) (ht : t.size ≤ 161) :
    Calls Tryz.prog 68 #[aggC f t (ptrO L o), .map (some L.mn)] w fun e w' => e = .returned (ptrO L (look q.names t.data.toList)) ∧ Step L q w L (applyQ L q f t o) w' := by
  have hlen : (entN L q.names).length < maxLen := by unfold entN maxLen; rw [List.length_map]; have := hS.nn; omega
  have hl := look_entN_get L q.names t.data.toList
  have fin : ∀ w', MapIs Tryz.prog 9 L.mn (entN L (applyN ⟨f.data.toList, t.data.toList, o⟩ q.names)) w' → Off (fun b => b = L.mn) w w' → Step L q w L (applyQ L q f t o) w' := by
    intro w' hm ho
    have g : w.grownBy w' (some L.mn) := ⟨ho.os, ho.tape, ho.output, ho.size, fun k hk hne => ho.block k hk (fun e => hne (by rw [e]))⟩
    exact ⟨rfl, H.setN g _ hm, ho.mono (fun b h => .inr (.inl h)), fun b h => .inl h⟩
  cases o with
  | none =>
    refine (apply_none f t L.mn (entN L q.names) w H.names (by unfold maxLen; omega) (by unfold maxLen; omega)).mono fun e w' ⟨h1, h2, h3⟩ => ⟨by rw [h1, hl], fin w' ?_ h3⟩
    rw [drop_entN] at h2
    exact h2
  | some k =>
    refine (apply_some f t (L.bl k) L.mn (entN L q.names) w H.names hlen (by unfold maxLen; omega) (by unfold maxLen; omega)).mono fun e w' ⟨h1, h2, h3⟩ => ⟨by rw [h1, hl], fin w' ?_ h3⟩
    rw [drop_entN] at h2
    have e := put_entN L (dropN q.names f.data.toList) t.data.toList k
    unfold ptr at e
    rw [e] at h2
    exact h2
theorem Tryz.infoC : (Tryz.prog.info? TC).map (fun i => (i.zero, i.size, i.bytes)) = some (some (.agg #[.string ⟨#[]⟩, .string ⟨#[]⟩, .pointer none]), 3, 40) := by kernel_rfl
theorem le_sum_mem : ∀ {l : List Nat} {a : Nat}, a ∈ l → a ≤ l.sum
  | x :: r, a, h => by
    rw [List.sum_cons]
    rcases List.mem_cons.1 h with rfl | h
    · omega
    · have := le_sum_mem h; omega
theorem chL_len {N : Nat} {q : Q} (h : Small N q) (d : Bs) : (chL q d).length ≤ N := by
  unfold chL
  cases hl : look q.changes d with
  | none => simp
  | some cs =>
    have hm := look_mem hl
    have : cs.length ≤ (q.changes.map fun x => x.2.length).sum := by
      have hmm : cs.length ∈ q.changes.map fun x => x.2.length := List.mem_map.2 ⟨_, hm, rfl⟩
      exact le_sum_mem hmm
    have := h.nk
    simp
    omega
theorem cellsC_snoc (L : Lay) (cs : List QC) (c : QC) : cellsC L (cs ++ [c]) = cellsC L cs ++ [.string (bs c.frm), .string (bs c.to), ptrO L c.body] := by simp [cellsC]
def mkC (f t : ByteArray) (o : Option Nat) : QC := ⟨f.data.toList, t.data.toList, o⟩
theorem change_end {L : Lay} {q : Q} {w w3 v3 w5 w6 w7 w8 w9 : World} {f t : ByteArray} {o : Option Nat} {pa : Option Addr} {D : Bs} {v0 v' : Value} (_H : QD L q w) (hbb : Below w.heap.size w w3) (hv3 : w3.drew = v3) (hst : Step L q v3 L (applyQ L q f t o) w5) (hw6 : w5.drew = w6)
    (hD : D = dirL f.data.toList) (hP : ptrO L o = .pointer pa) (hV0 : chV L q D = v0) (hg7 : w6.grownBy w7 none) (hown : w8.ownsRow 0 TC 3 v' ((chL q D).length + 1) (cellsC L (chL q D) ++ [.string f, .string t, .pointer pa])) (hg8 : w7.grownBy w8 v0.ownBlock) (hloc : v'.ownBlock = v0.ownBlock ∨ v'.ownBlock = some w7.heap.size)
    (hm9 : MapIs Tryz.prog 9 L.mc (putE (entC L q.changes) (.string D) v') w9) (hg9 : w8.grownBy w9 (some L.mc)) : Step L q w (cvL L (dirL f.data.toList) v') (changeQ q f.data.toList t.data.toList o) w9 := by
  subst hv3 hw6 hD
  have H6 : QD L (applyQ L q f t o) w5.drew := hst.to.drew
  have ho : Off (fun b => b = L.mc ∨ (chV L q (dirL f.data.toList)).ownBlock = some b) w5.drew w9 :=
    ((Off.of_grown hg7).mono (fun _ h => by cases h)).trans (Off.of_grown hg8) (fun x h => .inl (.inr (by rw [hV0]; exact h))) |>.trans (Off.of_grown hg9) (fun x h => .inl (.inl (Option.some.inj h).symm))
  have hl : ∀ b, v'.ownBlock = some b → (chV L q (dirL f.data.toList)).ownBlock = some b ∨ w5.drew.heap.size ≤ b := fun b hb => by
    rcases hloc with h | h
    · left; rw [hV0, ← h]; exact hb
    · right; rw [h] at hb; have := Option.some.inj hb; have := hg7.size; omega
  have hr8 : w8.ownsRow 0 TC 3 v' (chL q (dirL f.data.toList) ++ [mkC f t o]).length (cellsC L (chL q (dirL f.data.toList) ++ [mkC f t o])) := by
    rw [cellsC_snoc, List.length_append]
    simp only [mkC, bs_of, hP]
    exact hown
  have hk8 : kindAt w8 L.mc = some none := by
    have h7 := H6.changes.off ((Off.of_grown hg7).mono (G := fun _ => False) (fun _ h => by cases h)) (fun h => h)
    refine (h7.kept hg8 (fun e => ?_)).kind
    rw [← hV0] at e
    obtain ⟨cs, hc, hb⟩ := QD.chFoot e.symm
    exact ne_kind (H6.kg (x := (dirL f.data.toList, cs)) hc hb) H6.changes.kind (by simp) rfl
  have hr9 : w9.ownsRow 0 TC 3 v' (chL q (dirL f.data.toList) ++ [mkC f t o]).length (cellsC L (chL q (dirL f.data.toList) ++ [mkC f t o])) :=
    own_off hr8 (Off.of_grown hg9) (fun b hb e => ne_kind (row_kind hr8 hb) hk8 (by simp) (Option.some.inj e).symm)
  rw [put_entC L q.changes (dirL f.data.toList) v' (chL q (dirL f.data.toList) ++ [mkC f t o])] at hm9
  have hfin := H6.setC (dirL f.data.toList) ho v' (chL q (dirL f.data.toList) ++ [mkC f t o]) hm9 hr9 hl
  have hs1 : w.heap.size ≤ w5.drew.heap.size := Nat.le_trans hbb.size (Nat.le_trans (show w3.heap.size ≤ w3.drew.heap.size from Nat.le_refl _) hst.off.size)
  refine ⟨rfl, hfin, ?_, fun b hb => ?_⟩
  · have h1 : Off (foot L q) w w3.drew := (((Off.of_below hbb).mono (fun _ h => h.elim)) : Off (foot L q) w w3).drew
    have h2 : Off (foot L q) w w5.drew := (h1.trans hst.off (fun x h => .inl h)).drew
    refine h2.trans ho (fun x h => ?_)
    rcases h with h | h
    · exact .inl (.inr (.inr (.inr (.inl h))))
    · obtain ⟨cs, hc, hb⟩ := QD.chFoot h
      exact .inl (.inr (.inr (.inr (.inr (.inr (.inr ⟨_, hc, hb⟩))))))
  · rcases foot_setC (q := q) (w := w5.drew) (dirL f.data.toList) v' _ hl hb with h | h
    · exact .inl h
    · exact .inr (Nat.le_trans hs1 h)
set_option maxRecDepth 100000 in
set_option maxHeartbeats 1000000 in
theorem change_any {L : Lay} {q : Q} {w : World} (H : QD L q w) {N : Nat} (hS : Small N q) (hN : N ≤ 1048576) (f t : ByteArray) (o : Option Nat) (ho : ∀ k, o = some k → k < q.bodies.length) (hf : f.size ≤ 161) (ht : t.size ≤ 161) :
    Calls Tryz.prog 45 #[ptr L.d, .string f, .string t, ptrO L o] w fun e w' => e = .returned (.tuple #[]) ∧ ∃ L', Step L q w L' (changeQ q f.data.toList t.data.toList o) w' := by
  obtain ⟨pa, hpv⟩ : ∃ v, ptrO L o = .pointer v := by cases o <;> exact ⟨_, rfl⟩
  have HP := Lib.hid hpv
  have HH := Lib.hid H
  have HS := Lib.hid hS
  have HO := Lib.hid ho
  rw [hpv]
  clear hpv H hS ho
  unfold ptr
  go_enter Tryz.func45, Tryz.ntmps45
  go_wp2_with (first
    | (go_at_call 39; (with_reducible refine (clone_any f _ (by omega)).mono ?_); rintro e w1 ⟨rfl, hb1⟩)
    | (go_at_call 39; (with_reducible refine (clone_any t _ (by omega)).mono ?_); rintro e w2 ⟨rfl, hb2⟩))
  obtain ⟨w3, hw3⟩ : ∃ W, w2.alloc (.cells #[.string f, .string t, .pointer pa] 112) = W := ⟨_, rfl⟩
  have hB3 : Blk w2.heap.size (.cells #[.string f, .string t, .pointer pa] TC (0, 0)) w3 := by rw [← hw3]; exact Blk.new _ _
  have hb3 : Below w2.heap.size w2 w3 := by rw [← hw3]; exact (Below.refl _ _).alloc (Nat.le_refl _) _
  have hbb : Below w.heap.size w w3 := (hb1.trans (hb2.mono hb1.size)).trans (hb3.mono (Nat.le_trans hb1.size hb2.size))
  have HH3 := Lib.hid (HH.out.below hbb)
  have hsz : w.heap.size ≤ w2.heap.size := Nat.le_trans hb1.size hb2.size
  rw [hw3]
  clear hw3 hb1 hb2 hb3
  obtain ⟨B, hB⟩ : ∃ B, w2.heap.size = B := ⟨_, rfl⟩
  rw [hB] at hB3 hsz ⊢
  clear hB
  have e0 : w3.cell? ⟨B, 0, none⟩ = some (.string f) := hB3.cell 0
  have e1 : w3.cell? ⟨B, 1, none⟩ = some (.string t) := hB3.cell 1
  have e2 : w3.cell? ⟨B, 2, none⟩ = some (.pointer pa) := hB3.cell 2
  have c1 := HH3.out.c1
  go_still_tail 5, (by kernel_rfl)
  change wpList _ _ _ _ _ w3.drew
  have hap : Calls Tryz.prog 68 #[.agg #[.string f, .string t, .pointer pa], .map (some L.mn)] w3.drew fun e w' => e = .returned (ptrO L (look q.names t.data.toList)) ∧ Step L q w3.drew L (applyQ L q f t o) w' := by
    have := apply_names HH3.out.drew HS.out hN f t o hf ht
    rw [HP.out] at this
    exact this
  clear e0 e1 e2 c1
  have hnB : ∀ L2 : Lay, ∀ q2 : Q, (∀ b, foot L2 q2 b → foot L q b) → ¬ foot L2 q2 B := fun L2 q2 h hf => by have := HH.out.foot_lt (h B hf); omega
  have HNB := Lib.hid hnB
  clear hnB
  have hB3' : Blk B (.cells #[.string f, .string t, .pointer pa] TC (0, 0)) w3.drew := hB3
  have HBB := Lib.hid hbb
  have HA0 := Lib.hid hap
  clear hap hbb hB3
  obtain ⟨v3, hv3⟩ : ∃ W, w3.drew = W := ⟨_, rfl⟩
  have HV3 := Lib.hid hv3
  rw [hv3] at HA0 hB3' ⊢
  clear hv3
  go_wp2_with (first
    | (go_at_call 68; (with_reducible refine HA0.out.mono ?_); rintro e w4 ⟨rfl, st4⟩; have hB4 := st4.off.blk hB3' (HNB.out L q (fun _ h => h)); have e0 : w4.cell? ⟨B, 0, none⟩ = some (.string f) := hB4.cell 0; clear hB3')
    | (go_at_call 38; (with_reducible refine (directory_any f _ (by omega)).mono ?_); rintro e w5 ⟨rfl, hb5⟩))
  have st5 : Step L q v3 L (applyQ L q f t o) w5 := st4.trans (Step.below st4.to hb5)
  have hB5 : Blk B (.cells #[.string f, .string t, .pointer pa] TC (0, 0)) w5 := hB4.grown (grown_below hb5 none) (by simp)
  have HB5 := Lib.hid hB5
  have HST := Lib.hid st5
  clear e0 hB4 hb5 st4 hB5
  obtain ⟨D, hD⟩ : ∃ D, bs (dirL f.data.toList) = D := ⟨_, rfl⟩
  have HD := Lib.hid hD
  simp only [hD]
  clear hD
  have hall : ∀ W, Off (fun b => b = L.mc ∨ (chV L q D.data.toList).ownBlock = some b) w5 W → (W.cell? ⟨L.d, 3, none⟩ = some (.map (some L.mc)) ∧ W.cell? ⟨B, 0, none⟩ = some (.string f) ∧ W.cell? ⟨B, 1, none⟩ = some (.string t) ∧ W.cell? ⟨B, 2, none⟩ = some (.pointer pa)) := by
    intro W hW
    have H5 := st5.to
    have n1 : ¬ (L.d = L.mc ∨ (chV L q D.data.toList).ownBlock = some L.d) := fun h => by
      rcases h with h | h
      · exact ne_kind H5.kd H5.changes.kind (by simp) h
      · obtain ⟨cs, hc, hb⟩ := QD.chFoot h
        exact ne_kind H5.kd (H5.kg (x := (D.data.toList, cs)) hc hb) (by decide) rfl
    have n2 : ¬ (B = L.mc ∨ (chV L q D.data.toList).ownBlock = some B) := fun h => by
      refine HNB.out L q (fun _ h => h) ?_
      rcases h with h | h
      · exact .inr (.inr (.inr (.inl h)))
      · obtain ⟨cs, hc, hb⟩ := QD.chFoot h
        exact .inr (.inr (.inr (.inr (.inr (.inr ⟨_, hc, hb⟩)))))
    have hb := hW.blk HB5.out n2
    exact ⟨(hW.blk H5.disk n1).cell 3, hb.cell 0, hb.cell 1, hb.cell 2⟩
  have HA := Lib.hid hall
  clear hall st5
  refine wp_region_held_drew (S := fun W => W.cell? ⟨L.d, 3, none⟩ = some (.map (some L.mc)) ∧ W.cell? ⟨B, 0, none⟩ = some (.string f) ∧ W.cell? ⟨B, 1, none⟩ = some (.string t) ∧ W.cell? ⟨B, 2, none⟩ = some (.pointer pa)) (by kernel_rfl) (HA.out _ (Off.refl _ _).drew) (fun hHeld => ?_)
  refine wpAnyH_take (i := 0) (v := ?v0) rfl (by kernel_rfl) (by kernel_rfl) (by kernel_rfl) (fun _ _ _ h => h) (Or.inl ⟨by rfl, ?y0⟩) (by assumption) ?r0
  case y0 => (intro W hSw; (try dsimp only at hSw); go_simp <;> with_reducible rfl)
  change wpAnyH _ _ _ _ _ _ _ (Act.put _ (some 25) _) _
  simp only [Act.put, List.setIfInBounds_toArray, List.set_cons_zero, List.set_cons_succ]
  refine wpAnyH_take (i := 1) (v := ?v1) rfl (by kernel_rfl) (by kernel_rfl) (by kernel_rfl) (fun _ _ _ h => h) (Or.inl ⟨by rfl, ?y1⟩) (by assumption) ?r1
  case y1 => (intro W hSw; (try dsimp only at hSw); go_simp <;> with_reducible rfl)
  change wpAnyH _ _ _ _ _ _ _ (Act.put _ (some 26) _) _
  simp only [Act.put, List.setIfInBounds_toArray, List.set_cons_zero, List.set_cons_succ]
  refine wpAnyH_take (i := 2) (v := ?v2) rfl (by kernel_rfl) (by kernel_rfl) (by kernel_rfl) (fun _ _ _ h => h) (Or.inl ⟨by rfl, ?y2⟩) (by assumption) ?r2
  case y2 => (intro W hSw; (try dsimp only at hSw); go_simp <;> with_reducible rfl)
  change wpAnyH _ _ _ _ _ _ _ (Act.put _ (some 27) _) _
  simp only [Act.put, List.setIfInBounds_toArray, List.set_cons_zero, List.set_cons_succ]
  refine wpAnyH_take (i := 3) (v := ?v3) rfl (by kernel_rfl) (by kernel_rfl) (by kernel_rfl) (fun _ _ _ h => h) (Or.inl ⟨by rfl, ?y3⟩) (by assumption) ?r3
  case y3 => (intro W hSw; (try dsimp only at hSw); go_simp <;> with_reducible rfl)
  change wpAnyH _ _ _ _ _ _ _ (Act.put _ (some 28) _) _
  simp only [Act.put, List.setIfInBounds_toArray, List.set_cons_zero, List.set_cons_succ]
  refine wpAnyH_take (i := 4) (v := ?v4) rfl (by kernel_rfl) (by kernel_rfl) (by kernel_rfl) (fun _ _ _ h => h) (Or.inl ⟨by rfl, ?y4⟩) (by assumption) ?r4
  case y4 => (intro W hSw; (try dsimp only at hSw); go_simp <;> with_reducible rfl)
  change wpAnyH _ _ _ _ _ _ _ (Act.put _ (some 29) _) _
  simp only [Act.put, List.setIfInBounds_toArray, List.set_cons_zero, List.set_cons_succ]
  refine wpAnyH_take (i := 5) (v := ?v5) rfl (by kernel_rfl) (by kernel_rfl) (by kernel_rfl) (fun _ _ _ h => h) (Or.inl ⟨by rfl, ?y5⟩) (by assumption) ?r5
  case y5 => (intro W hSw; (try dsimp only at hSw); go_simp <;> with_reducible rfl)
  change wpAnyH _ _ _ _ _ _ _ (Act.put _ (some 30) _) _
  simp only [Act.put, List.setIfInBounds_toArray, List.set_cons_zero, List.set_cons_succ]
  refine wpAnyH_take (i := 6) (v := ?v6) rfl (by kernel_rfl) (by kernel_rfl) (by kernel_rfl) (fun _ _ _ h => h) (Or.inl ⟨by rfl, ?y6⟩) (by assumption) ?r6
  case y6 => (intro W hSw; (try dsimp only at hSw); go_simp <;> with_reducible rfl)
  change wpAnyH _ _ _ _ _ _ _ (Act.put _ (some 31) _) _
  simp only [Act.put, List.setIfInBounds_toArray, List.set_cons_zero, List.set_cons_succ]
  refine wpAnyH_take (i := 7) (v := ?v7) rfl (by kernel_rfl) (by kernel_rfl) (by kernel_rfl) (fun _ _ _ h => h) (Or.inl ⟨by rfl, ?y7⟩) (by assumption) ?r7
  case y7 => (intro W hSw; (try dsimp only at hSw); go_simp <;> with_reducible rfl)
  change wpAnyH _ _ _ _ _ _ _ (Act.put _ (some 32) _) _
  simp only [Act.put, List.setIfInBounds_toArray, List.set_cons_zero, List.set_cons_succ]
  refine wpAnyH_take (i := 8) (v := ?v8) rfl (by kernel_rfl) (by kernel_rfl) (by kernel_rfl) (fun _ _ _ h => h) (Or.inl ⟨by rfl, ?y8⟩) (by assumption) ?r8
  case y8 => (intro W hSw; (try dsimp only at hSw); go_simp <;> with_reducible rfl)
  change wpAnyH _ _ _ _ _ _ _ (Act.put _ (some 33) _) _
  simp only [Act.put, List.setIfInBounds_toArray, List.set_cons_zero, List.set_cons_succ]
  refine wpAnyH_take (i := 9) (v := ?v9) rfl (by kernel_rfl) (by kernel_rfl) (by kernel_rfl) (fun _ _ _ h => h) (Or.inl ⟨by rfl, ?y9⟩) (by assumption) ?r9
  case y9 => (intro W hSw; (try dsimp only at hSw); go_simp <;> with_reducible rfl)
  change wpAnyH _ _ _ _ _ _ _ (Act.put _ (some 34) _) _
  simp only [Act.put, List.setIfInBounds_toArray, List.set_cons_zero, List.set_cons_succ]
  refine wpAnyH_take (i := 11) (v := ?v11) rfl (by kernel_rfl) (by kernel_rfl) (by kernel_rfl) (fun _ _ _ h => h) (Or.inl ⟨by rfl, ?y11⟩) (by assumption) ?r11
  case y11 => (intro W hSw; (try dsimp only at hSw); go_simp <;> with_reducible rfl)
  change wpAnyH _ _ _ _ _ _ _ (Act.put _ (some 36) _) _
  simp only [Act.put, List.setIfInBounds_toArray, List.set_cons_zero, List.set_cons_succ]
  have H5 := HST.out.to
  have kD : keyOf Tryz.prog 9 (.string D) = some (.string D.data.toList) := key_str D (by have := HD.out; rw [← this, bs_size]; have := dir_len f.data.toList; have := size_list f; unfold maxLen; omega)
  have HKD := Lib.hid kD
  obtain ⟨v0, hv0⟩ : ∃ v, chV L q D.data.toList = v := ⟨_, rfl⟩
  have HV0 := Lib.hid hv0
  have HM5 : Hid (MapIs Tryz.prog 9 L.mc (entC L q.changes) w5.drew) := Lib.hid H5.drew.changes
  have HS5 := Lib.hid hHeld
  clear kD H5 hv0 hHeld
  obtain ⟨w6, hw6⟩ : ∃ W, w5.drew = W := ⟨_, rfl⟩
  have HW6 := Lib.hid hw6
  rw [hw6] at HM5 HS5 ⊢
  clear hw6
  have ho6 : Off (fun b => b = L.mc ∨ (chV L q D.data.toList).ownBlock = some b) w5 w6 := by rw [← HW6.out]; exact (Off.refl _ _).drew
  have HO6 := Lib.hid ho6
  clear ho6
  obtain ⟨i0, hi, hz0, hz1, hz2⟩ := info_parts Tryz.infoC
  refine wpAnyH_ready (rs := [10, 12]) (by kernel_rfl) (by simp) ?_
  refine AllReadyH.cons rfl (fun K hK => ?_) (AllReadyH.cons rfl (fun K hK => ?_) AllReadyH.nil)
  · rw [if_pos (by rfl)]
    refine wp_lookup_map w6 _ _ 55 rfl 9 87 KS Tryz.underlying55 (.slice none 0 0) (zeroS _) L.mc _ rfl HM5.out _ _ rfl HKD.out v0 HV0.out ?_
    refine hK.out _ _ HS5.out (fun _ => ?_)
    clear hK K
    change wpAnyH _ _ _ _ _ _ _ (Act.put _ (some 35) _) _
    simp only [Act.put, List.setIfInBounds_toArray, List.set_cons_zero, List.set_cons_succ]
    refine wpAnyH_ready (rs := [12]) (by kernel_rfl) (by simp) ?_
    refine AllReadyH.cons rfl (fun K hK => ?_) AllReadyH.nil
    go_simp
    obtain ⟨w7, hw7⟩ : ∃ W, w6.alloc (.cells #[.string f, .string t, .pointer pa] 112) = W := ⟨_, rfl⟩
    have HG7 := Lib.hid (show w6.grownBy w7 none by rw [← hw7]; exact grown_alloc _ _ _)
    have HB7 := Lib.hid (show Blk w6.heap.size (.cells #[.string f, .string t, .pointer pa] TC (0, 0)) w7 by rw [← hw7]; exact Blk.new _ _)
    rw [hw7]
    clear hw7
    have HM7 := Lib.hid (HM5.out.kept HG7.out (by simp))
    have ho7 : Off (fun b => b = L.mc ∨ (chV L q D.data.toList).ownBlock = some b) w5 w7 := (HO6.out).trans (Off.of_grown HG7.out) (fun x h => by cases h)
    have HO7 := Lib.hid ho7
    clear ho7
    refine hK.out _ _ (HA.out _ HO7.out) (fun _ => ?_)
    clear hK K
    refine wpAnyH_ready (rs := [13]) (by kernel_rfl) (by simp) ?_
    refine AllReadyH.cons rfl (fun K hK => ?_) AllReadyH.nil
    rw [if_pos (by rfl)]
    have hrow7 : w7.ownsRow 0 TC 3 v0 (chL q D.data.toList).length (cellsC L (chL q D.data.toList)) := by
      rw [← HV0.out]
      refine own_off (own_off (HST.out.to.chRow D.data.toList) (Off.drew (Off.refl (fun _ => False) w5)) (fun _ _ h => h)) (w := w5.drew) ?_ (fun b _ h => ?_) (F := fun _ => False)
      · rw [HW6.out]; exact (Off.of_grown HG7.out).mono (fun _ h => by cases h)
      · exact h
    refine wp_append_at w7 _ _ 87 rfl 0 TC i0 _ 3 40 Tryz.underlying87 hi hz0 hz1 hz2 rfl (by decide) v0 _ _ rfl hrow7 ⟨w6.heap.size, 0, none⟩ 1 1 [.string f, .string t, .pointer pa] rfl rfl ?_ ?_ (by have := chL_len HS.out D.data.toList; unfold maxLen; omega) (by have := chL_len HS.out D.data.toList; omega) (Nat.zero_le _) ?_
    · intro j u hj
      rw [Addr.add_mid, Nat.zero_add, HB7.out.cell]
      simpa using hj
    · intro u hu
      simp at hu
      rcases hu with rfl | rfl | rfl <;> rfl
    intro v' w8 hown' hg8 _ hloc
    have ho8 : Off (fun b => b = L.mc ∨ (chV L q D.data.toList).ownBlock = some b) w5 w8 := HO7.out.trans (Off.of_grown hg8) (fun x h => .inl (.inr (by rw [HV0.out]; exact h)))
    refine hK.out _ _ (HA.out _ ho8) (fun _ => ?_)
    clear hK K hrow7
    change wpAnyH _ _ _ _ _ _ _ (Act.put _ (some 38) _) _
    simp only [Act.put, List.setIfInBounds_toArray, List.set_cons_zero, List.set_cons_succ]
    have hm8 : MapIs Tryz.prog 9 L.mc (entC L q.changes) w8 := HM7.out.kept hg8 (fun e => by
      have H5 := HST.out.to
      rw [← HV0.out] at e
      obtain ⟨cs, hc, hb⟩ := QD.chFoot e.symm
      exact ne_kind (H5.kg (x := (D.data.toList, cs)) hc hb) H5.changes.kind (by simp) rfl)
    have HM8 := Lib.hid hm8
    have HO8 := Lib.hid ho8
    clear hm8 ho8
    refine wpAnyH_ready (rs := [14]) (by kernel_rfl) (by simp) ?_
    refine AllReadyH.cons rfl (fun K hK => ?_) AllReadyH.nil
    rw [if_pos (by rfl)]
    refine wp_store_map w8 _ _ _ 55 rfl 9 87 KS Tryz.underlying55 L.mc _ rfl HM8.out (by unfold entC maxLen; rw [List.length_map]; have := HS.out.nc; omega) _ _ _ rfl rfl HKD.out ?_
    intro w9 hm9 hg9
    have ho9 : Off (fun b => b = L.mc ∨ (chV L q D.data.toList).ownBlock = some b) w5 w9 := HO8.out.trans (Off.of_grown hg9) (fun x h => .inl (.inl (Option.some.inj h).symm))
    refine hK.out _ _ (HA.out _ ho9) (fun _ => ?_)
    clear hK K
    change wpAnyH _ _ _ _ _ _ _ _ _
    refine wpAnyH_done (by kernel_rfl) ?_ _
    go_end0
    refine ⟨rfl, cvL L (dirL f.data.toList) v', ?_⟩
    have eD : D.data.toList = dirL f.data.toList := by rw [← HD.out, bs_list]
    exact change_end HH.out HBB.out HV3.out HST.out HW6.out eD HP.out HV0.out HG7.out hown' hg8 hloc hm9 hg9
  · go_simp
    obtain ⟨w7, hw7⟩ : ∃ W, w6.alloc (.cells #[.string f, .string t, .pointer pa] 112) = W := ⟨_, rfl⟩
    have HG7 := Lib.hid (show w6.grownBy w7 none by rw [← hw7]; exact grown_alloc _ _ _)
    have HB7 := Lib.hid (show Blk w6.heap.size (.cells #[.string f, .string t, .pointer pa] TC (0, 0)) w7 by rw [← hw7]; exact Blk.new _ _)
    rw [hw7]
    clear hw7
    have HM7 := Lib.hid (HM5.out.kept HG7.out (by simp))
    have ho7 : Off (fun b => b = L.mc ∨ (chV L q D.data.toList).ownBlock = some b) w5 w7 := (HO6.out).trans (Off.of_grown HG7.out) (fun x h => by cases h)
    have HO7 := Lib.hid ho7
    clear ho7
    refine hK.out _ _ (HA.out _ HO7.out) (fun _ => ?_)
    clear hK K
    refine wpAnyH_ready (rs := [10]) (by kernel_rfl) (by simp) ?_
    refine AllReadyH.cons rfl (fun K hK => ?_) AllReadyH.nil
    rw [if_pos (by rfl)]
    refine wp_lookup_map w7 _ _ 55 rfl 9 87 KS Tryz.underlying55 (.slice none 0 0) (zeroS _) L.mc _ rfl HM7.out _ _ rfl HKD.out v0 HV0.out ?_
    refine hK.out _ _ (HA.out _ HO7.out) (fun _ => ?_)
    clear hK K
    change wpAnyH _ _ _ _ _ _ _ (Act.put _ (some 35) _) _
    simp only [Act.put, List.setIfInBounds_toArray, List.set_cons_zero, List.set_cons_succ]
    refine wpAnyH_ready (rs := [13]) (by kernel_rfl) (by simp) ?_
    refine AllReadyH.cons rfl (fun K hK => ?_) AllReadyH.nil
    rw [if_pos (by rfl)]
    have hrow7 : w7.ownsRow 0 TC 3 v0 (chL q D.data.toList).length (cellsC L (chL q D.data.toList)) := by
      rw [← HV0.out]
      refine own_off (own_off (HST.out.to.chRow D.data.toList) (Off.drew (Off.refl (fun _ => False) w5)) (fun _ _ h => h)) (w := w5.drew) ?_ (fun b _ h => ?_) (F := fun _ => False)
      · rw [HW6.out]; exact (Off.of_grown HG7.out).mono (fun _ h => by cases h)
      · exact h
    refine wp_append_at w7 _ _ 87 rfl 0 TC i0 _ 3 40 Tryz.underlying87 hi hz0 hz1 hz2 rfl (by decide) v0 _ _ rfl hrow7 ⟨w6.heap.size, 0, none⟩ 1 1 [.string f, .string t, .pointer pa] rfl rfl ?_ ?_ (by have := chL_len HS.out D.data.toList; unfold maxLen; omega) (by have := chL_len HS.out D.data.toList; omega) (Nat.zero_le _) ?_
    · intro j u hj
      rw [Addr.add_mid, Nat.zero_add, HB7.out.cell]
      simpa using hj
    · intro u hu
      simp at hu
      rcases hu with rfl | rfl | rfl <;> rfl
    intro v' w8 hown' hg8 _ hloc
    have ho8 : Off (fun b => b = L.mc ∨ (chV L q D.data.toList).ownBlock = some b) w5 w8 := HO7.out.trans (Off.of_grown hg8) (fun x h => .inl (.inr (by rw [HV0.out]; exact h)))
    refine hK.out _ _ (HA.out _ ho8) (fun _ => ?_)
    clear hK K hrow7
    change wpAnyH _ _ _ _ _ _ _ (Act.put _ (some 38) _) _
    simp only [Act.put, List.setIfInBounds_toArray, List.set_cons_zero, List.set_cons_succ]
    have hm8 : MapIs Tryz.prog 9 L.mc (entC L q.changes) w8 := HM7.out.kept hg8 (fun e => by
      have H5 := HST.out.to
      rw [← HV0.out] at e
      obtain ⟨cs, hc, hb⟩ := QD.chFoot e.symm
      exact ne_kind (H5.kg (x := (D.data.toList, cs)) hc hb) H5.changes.kind (by simp) rfl)
    have HM8 := Lib.hid hm8
    have HO8 := Lib.hid ho8
    clear hm8 ho8
    refine wpAnyH_ready (rs := [14]) (by kernel_rfl) (by simp) ?_
    refine AllReadyH.cons rfl (fun K hK => ?_) AllReadyH.nil
    rw [if_pos (by rfl)]
    refine wp_store_map w8 _ _ _ 55 rfl 9 87 KS Tryz.underlying55 L.mc _ rfl HM8.out (by unfold entC maxLen; rw [List.length_map]; have := HS.out.nc; omega) _ _ _ rfl rfl HKD.out ?_
    intro w9 hm9 hg9
    have ho9 : Off (fun b => b = L.mc ∨ (chV L q D.data.toList).ownBlock = some b) w5 w9 := HO8.out.trans (Off.of_grown hg9) (fun x h => .inl (.inl (Option.some.inj h).symm))
    refine hK.out _ _ (HA.out _ ho9) (fun _ => ?_)
    clear hK K
    change wpAnyH _ _ _ _ _ _ _ _ _
    refine wpAnyH_done (by kernel_rfl) ?_ _
    go_end0
    refine ⟨rfl, cvL L (dirL f.data.toList) v', ?_⟩
    have eD : D.data.toList = dirL f.data.toList := by rw [← HD.out, bs_list]
    exact change_end HH.out HBB.out HV3.out HST.out HW6.out eD HP.out HV0.out HG7.out hown' hg8 hloc hm9 hg9
end Go.Proofs.YtbodkjifpmencaaGreat
