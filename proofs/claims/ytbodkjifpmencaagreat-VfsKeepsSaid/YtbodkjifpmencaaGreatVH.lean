/-
  The walks of package vfs's extend and newBody. Conditions: a disk of a modest size, bytes of a modest length.
-/
import Derived.Test.YtbodkjifpmencaaGreatVG
namespace Go.Proofs.YtbodkjifpmencaaGreat
open Go.RowKit
open Go.Lib

theorem Tryz.infoU8 : (Tryz.prog.info? 5).map (fun i => (i.zero, i.size, i.bytes)) = some (some (.int .u8 0), 1, 1) := by kernel_rfl
theorem sizeSl (w : World) : (Go.sizeOf 28).run Tryz.prog w = .ok 1 w := size_of (by kernel_rfl) w
theorem sizeI (w : World) : (Go.sizeOf 3).run Tryz.prog w = .ok 1 w := size_of (by kernel_rfl) w
theorem own_one {w : World} {base n : Nat} {e : TypeId} {v : Value} {xs : List Value} {size : Nat} (h : w.ownsRow base e size v n xs) : v.oneCell' = true := by
  rcases h.2 with ⟨rfl, _⟩ | ⟨g, cap, cur, rfl, _⟩ <;> rfl
def upB (L : Lay) (k : Nat) (v : Value) : Lay := { L with bv := upd L.bv k v }
theorem entL_upB (L : Lay) (k : Nat) (v : Value) (l : List (Nat × Unit)) : entL (upB L k v) l = entL L l := rfl
theorem foot_setB {L : Lay} {q : Q} {w : World} {k : Nat} (hk : k < q.bodies.length) (v : Value) {x : QB} {l : List (Nat × Unit)} (hl : ∀ b, v.ownBlock = some b → (L.bv k).ownBlock = some b ∨ w.heap.size ≤ b) {b : Nat}
    (h : foot (upB L k v) { q with bodies := q.bodies.set k x, loose := l } b) : foot L q b ∨ w.heap.size ≤ b := by
  rcases h with h | h | h | h | h | ⟨j, hj, h⟩ | h
  · exact .inl (.inl h)
  · exact .inl (.inr (.inl h))
  · exact .inl (.inr (.inr (.inl h)))
  · exact .inl (.inr (.inr (.inr (.inl h))))
  · exact .inl (.inr (.inr (.inr (.inr (.inl h)))))
  · have hj' : j < q.bodies.length := by simpa using hj
    rcases h with h | h
    · exact .inl (.inr (.inr (.inr (.inr (.inr (.inl ⟨j, hj', .inl h⟩))))))
    · by_cases e : j = k
      · subst e
        rw [show (upB L j v).bv j = v from upd_same _ _ _] at h
        rcases hl b h with h2 | h2
        · exact .inl (.inr (.inr (.inr (.inr (.inr (.inl ⟨j, hj', .inr h2⟩))))))
        · exact .inr h2
      · rw [show (upB L k v).bv j = L.bv j from upd_ne _ _ e] at h
        exact .inl (.inr (.inr (.inr (.inr (.inr (.inl ⟨j, hj', .inr h⟩))))))
  · exact .inl (.inr (.inr (.inr (.inr (.inr (.inr h))))))
set_option maxRecDepth 100000 in
theorem extend_nil {L : Lay} {q : Q} {w : World} (H : QD L q w) (k : Nat) (A : Option Addr) (c : Nat) : Calls Tryz.prog 49 #[ptr L.d, ptr (L.bl k), .slice A 0 c] w fun e w' => e = .returned (.tuple #[]) ∧ Step L q w L q w' := by
  have HH := Lib.hid H
  clear H
  unfold ptr
  go_enter Tryz.func49, Tryz.ntmps49
  go_wp2
  first
    | (go_end0; exact ⟨rfl, Step.refl HH.out⟩)
    | (refine bodyPost_ret (results_none rfl _ _ _) rfl ?_; exact ⟨rfl, Step.refl HH.out⟩)
set_option maxRecDepth 100000 in
set_option maxHeartbeats 1000000 in
theorem extend_some {L : Lay} {q : Q} {w : World} (H : QD L q w) {k : Nat} (hk : k < q.bodies.length) (b : Bs) (A : Option Addr) (c : Nat) (hA : RB w A b) (hb : 0 < b.length) (hnl : (qbody q k).now.length + b.length ≤ 1073741824) (hkl : k ≤ 1048576) (hll : q.loose.length ≤ 1048576) :
    Calls Tryz.prog 49 #[ptr L.d, ptr (L.bl k), .slice A b.length c] w fun e w' => e = .returned (.tuple #[]) ∧ ∃ v, Step L q w (upB L k v) (extendQ q k b) w' := by
  obtain ⟨ab, ao, rfl, hal, hac⟩ := hA hb
  have HQ : Hid (extendQ q k b = { q with bodies := q.bodies.set k ⟨(qbody q k).now ++ b, (qbody q k).kept⟩, loose := putN q.loose k () }) := Lib.hid (by unfold extendQ; rw [if_neg (by intro e; rw [e] at hb; simp at hb)])
  obtain ⟨i0, hi, hz0, hz1, hz2⟩ := info_parts Tryz.infoU8
  have hb1 := H.b1 hk
  have hrow : w.ownsRow 0 5 1 (L.bv k) (qbody q k).now.length (cellsB (qbody q k).now) := H.row k hk
  have hcs : ∀ j u, (cellsB b)[j]? = some u → w.cell? ((⟨ab, ao, none⟩ : Addr).add j) = some u := by
    intro j u hj
    have hjl : j < b.length := by have := (List.getElem?_eq_some_iff.1 hj).1; rwa [cellsB_length] at this
    rw [cellsB_at _ j hjl] at hj
    rw [Addr.add_mid, hac j hjl]
    exact hj
  have hbi : ((b.length : Int) == 0) = false := by rw [beq_eq_false_iff_ne]; omega
  have hnr : (L.bv k).ownBlock ≠ some (L.bl k) := fun e => ne_kind (H.kr hk e) (H.kb hk) (by decide) rfl
  have hbod := H.bod k hk
  have HC := Lib.hid hcs
  have HH := Lib.hid H
  have HR := Lib.hid hrow
  have HKL := Lib.hid hll
  obtain ⟨V, hV⟩ : ∃ V, L.bv k = V := ⟨_, rfl⟩
  rw [hV] at hb1 hnr hbod
  have HB := Lib.hid hbod
  have hmrow : V.ownBlock ≠ some L.ml := fun e => ne_kind (H.kr hk (by rw [hV]; exact e)) H.loose.kind (by simp) rfl
  have hmbl : L.bl k ≠ L.ml := ne_kind (H.kb hk) H.loose.kind (by simp)
  have HM1 : Hid (∀ {w1 w2 : World}, w.grownBy w1 V.ownBlock → w1.grownBy w2 (some (L.bl k)) → MapIs Tryz.prog 3 L.ml (entL L q.loose) w2) := Lib.hid (fun g1 g2 => (H.loose.kept g1 (Ne.symm hmrow)).kept g2 (fun e => hmbl (Option.some.inj e).symm))
  clear hmrow hmbl
  have HD := Lib.hid (show L.bl k ≠ L.d from ne_kind (H.kb hk) H.kd (by decide))
  have HDR := Lib.hid (show V.ownBlock ≠ some L.d from fun e => ne_kind (H.kr hk (by rw [hV]; exact e)) H.kd (by decide) rfl)
  have HV := Lib.hid hV
  obtain ⟨nb, hnb⟩ : ∃ n, b.length = n := ⟨_, rfl⟩
  have HNB := Lib.hid hnb
  obtain ⟨nn, hnn⟩ : ∃ n, (qbody q k).now.length = n := ⟨_, rfl⟩
  have HNN := Lib.hid hnn
  rw [hnb] at hb hnl hbi ⊢
  rw [hnn] at hnl
  clear hV hcs hrow hA H hac hll hnb hnn hbod
  unfold ptr
  go_enter Tryz.func49, Tryz.ntmps49
  go_wp2_with (first
    | (at_builtin; refine wpList_append_own_at _ rfl _ _ 28 rfl 0 5 i0 (.int .u8 0) 1 1 Tryz.underlying28 hi hz0 hz1 hz2 rfl (by decide) V nn (cellsB (qbody q k).now) rfl (by rw [← HV.out, ← HNN.out]; exact HR.out) ⟨ab, ao, none⟩ nb c (cellsB b) rfl (by rw [cellsB_length, HNB.out]; simp) HC.out (cellsB_one _) (by unfold maxLen; omega) (by omega) (Nat.zero_le _) ?_; intro v' w1 hown' hg1 _ hloc; have hB1 := HB.out.grown hg1 (Ne.symm hnr); clear hb1)
    | (guard_target =~ Go.wpList _ _ _ ({ dst := none, op := Go.Op.store 28 _ _, .. } :: _) _ _; refine st1 rfl rfl hB1 (by show 1 < 3; decide) (own_one hown') sizeSl ?_; intro w2 hB2 hg2))
  have hd2 : Blk L.d (.cells (dcells L q) TD (0, 0)) w2 := (HH.out.disk.grown hg1 (Ne.symm HDR.out)).grown hg2 (fun e => HD.out (Option.some.inj e).symm)
  have c4 : w2.cell? ⟨L.d, 4, none⟩ = some (.map (some L.ml)) := hd2.cell 4
  have b0 : w2.cell? ⟨L.bl k, 0, none⟩ = some (.int .i64 (k : Int)) := hB2.cell 0
  clear hd2
  go_still_tail 9, (by kernel_rfl)
  have hM2 : MapIs Tryz.prog 3 L.ml (entL L q.loose) w2 := HM1.out hg1 hg2
  change wpList _ _ _ _ _ w2.drew
  obtain ⟨W2, hW2⟩ : ∃ W, w2.drew = W := ⟨_, rfl⟩
  have hM3 : MapIs Tryz.prog 3 L.ml (entL L q.loose) W2 := hW2 ▸ hM2
  have HW2 := Lib.hid hW2
  rw [hW2]
  clear hW2 hM2 c4 b0
  go_wp2_with (at_mapUpdate; refine wpList_store_map _ rfl _ _ _ 56 rfl 3 70 KI Tryz.underlying56 L.ml _ rfl hM3 (by unfold entL maxLen; rw [List.length_map]; have := HKL.out; omega) _ _ _ rfl rfl (key_nat k hkl) ?_; intro w3 hM4 hg3)
  go_end0
  refine ⟨rfl, v', ?_⟩
  have H := HH.out
  have o2 : Off (fun x => x = L.bl k ∨ (L.bv k).ownBlock = some x) w w2 := (Off.of_grown hg1).mono (fun x h => .inr (by rw [HV.out]; exact h)) |>.trans (Off.of_grown hg2) (fun x h => .inl (.inl (Option.some.inj h).symm))
  have r2 : OwnB w2 0 v' ((qbody q k).now ++ b) := by
    have h3 : w1.ownsRow 0 5 1 v' ((qbody q k).now ++ b).length (cellsB ((qbody q k).now ++ b)) := by
      rw [List.length_append, HNN.out, HNB.out, cellsB_append]; exact hown'
    exact own_off h3 (Off.of_grown hg2) (fun x hx e => ne_kind (row_kind h3 hx) hB1.kind (show (some 5 : Option TypeId) ≠ some TB by decide) (Option.some.inj e).symm)
  have H2 := H.setB hk o2 v' ((qbody q k).now ++ b) (qbody q k).kept hB2 r2 (fun x hx => by
    rcases hloc with h | h
    · left; rw [HV.out, ← h]; exact hx
    · right; rw [h] at hx; have := Option.some.inj hx; omega)
  have H2' : QD (upB L k v') { q with bodies := q.bodies.set k ⟨(qbody q k).now ++ b, (qbody q k).kept⟩ } W2 := by rw [← HW2.out]; exact H2.drew
  have H3 := H2'.setL hg3 (putN q.loose k ()) (by rw [← put_entL] at *; exact hM4)
  rw [HQ.out]
  have og : Off (fun x => x = L.bl k ∨ (L.bv k).ownBlock = some x) w W2 := by rw [← HW2.out]; exact o2.drew
  refine ⟨rfl, H3, (og.mono (fun x h => ?_)).trans (Off.of_grown hg3) (fun x h => ?_), fun x h => ?_⟩
  · exact .inr (.inr (.inr (.inr (.inr (.inl ⟨k, hk, h⟩)))))
  · exact .inl (.inr (.inr (.inr (.inr (.inl (Option.some.inj h).symm)))))
  · exact foot_setB hk v' (fun y hy => by
      rcases hloc with e | e
      · left; rw [HV.out, ← e]; exact hy
      · right; rw [e] at hy; have := Option.some.inj hy; omega) h
end Go.Proofs.YtbodkjifpmencaaGreat
