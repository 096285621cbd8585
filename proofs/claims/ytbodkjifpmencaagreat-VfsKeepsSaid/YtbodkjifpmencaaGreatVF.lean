/-
  The walks of package vfs's Used and hasRoom. Conditions: a disk of a modest size.
-/
import Derived.Test.YtbodkjifpmencaaGreatVE
namespace Go.Proofs.YtbodkjifpmencaaGreat
open Go.RowKit
open Go.Lib
open Go.Maps (keyOf_str)

def total (q : Q) (ss : List Bs) : Nat := (ss.map fun p => sizeO q (look q.names p)).sum
theorem total_snoc (q : Q) (ss : List Bs) (p : Bs) : total q (ss ++ [p]) = total q ss + sizeO q (look q.names p) := by simp [total]
theorem total_le {N : Nat} {q : Q} (h : Small N q) (ss : List Bs) : total q ss ≤ ss.length * N := sum_le _ N ss (fun _p _ => h.size _)
theorem total_perm {q : Q} {ss : List Bs} (h : ss.Perm (q.names.map (·.1))) (hd : (q.names.map (·.1)).Nodup) : total q ss = usedQ q := by
  rw [← used_sum hd]
  exact (h.map _).sum_nat
theorem keys_entN (L : Lay) (n : Nm) : ((entN L n).map fun p => strOf p.1) = n.map (·.1) := by
  unfold entN
  rw [List.map_map]; rfl
/-- What an element of the map of names is. -/
theorem elem_names {L : Lay} {n : Nm} {es : List (Lit × DataW Value)} {x : Bs} {c : Value} (hp : es.Perm (datE (entN L n))) (hd : (entN L n).Pairwise (fun p q => p.1 ≠ q.1)) (hat : ∀ zd : DataW Value, (DataW.map es).atKey (.string x) zd = .held c) :
    ∃ k, look n x = some k ∧ c = ptr (L.bl k) := by
  have h1 := hat (.held (.bool true))
  have h2 := hat (.held (.bool false))
  rw [at_of_perm hp hd, look_entN] at h1 h2
  cases hl : look n x with
  | none => rw [hl] at h1 h2; simp at h1 h2; rw [← h1] at h2; cases h2
  | some k => rw [hl] at h1; simp at h1; exact ⟨k, rfl, h1.symm⟩
theorem hR_inv {c : Value} {yd : DataW Value} {yp : List MemPlace} (h : hR c = some (yd, yp)) : yd = .held c := by
  unfold hR at h; simp at h; exact h.1.symm
set_option maxRecDepth 100000 in
set_option maxHeartbeats 1000000 in
theorem used_any {L : Lay} {q : Q} {w : World} (H : QD L q w) {N : Nat} (hS : Small N q) (hN : N ≤ 1048576) : Calls Tryz.prog 12 #[ptr L.d] w fun e w' => e = .returned (.int .i64 (usedQ q : Int)) ∧ Below w.heap.size w w' := by
  obtain ⟨hd, es, hown, hperm⟩ := H.names
  have hkp : ∃ D, D = DataW.map es ∧ (strKeys D).Perm (q.names.map (·.1)) ∧ Maps.size D = q.names.length := by
    refine ⟨_, rfl, ?_, ?_⟩
    · have := hperm.map fun p => strOf p.1
      unfold datE at this
      rw [List.map_map] at this
      rw [← keys_entN L q.names]
      exact this
    · rw [Maps.size_eq, hperm.length_eq, length_datE]; simp [entN]
  obtain ⟨D, hD, hkeys, hsz⟩ := hkp
  have hat0 : ∀ x c, (∀ zd : DataW Value, D.atKey (.string x) zd = .held c) → ∃ k, look q.names x = some k ∧ c = ptr (L.bl k) := fun x c h => by rw [hD] at h; exact elem_names hperm hd h
  rw [← hD] at hown
  have hKS := hown.isMap
  generalize (entN L q.names).length = n at hown
  have hmn := hown.lt
  have c1 := H.c1
  have HH := Lib.hid H
  have HS := Lib.hid hS
  have HAT := Lib.hid hat0
  have HKE := Lib.hid hkeys
  have HSZ := Lib.hid hsz
  have HO := Lib.hid hown
  have hnn := hS.nn
  clear hd hperm hD hkeys hat0 H hS hsz hKS
  unfold ptr
  go_enter Tryz.func12, Tryz.ntmps12
  go_wp2_with (at_range; refine wpList_range_own _ rfl _ 54 rfl 9 70 KS Tryz.underlying54 hR L.mn n D rfl hown ?_; intro w0 hrg0 hg0 hs0)
  go_frame
  clear c1 hown
  go_loopw [3] (fun u wr => ∃ (left : Lit → Bool) (cnt : Nat) (ss : List Bs), wr.ranges Tryz.prog 9 hR L.mn w.heap.size n D left cnt ∧ Collected D left ss ∧ ss.length + cnt ≤ q.names.length ∧ u = .int .i64 (total q ss : Int) ∧ Below w.heap.size w wr) (fun _ wr => wr.rangeLeft L.mn w.heap.size)
  case atStart => exact ⟨_, _, [], hrg0, Collected.start D, by simp [HSZ.out], rfl, (Below.refl _ _).grown hg0 (Nat.le_refl _) (fun j hj => by cases hj)⟩
  case round =>
    clear hrg0 hg0 hs0
    obtain ⟨left, cnt, ss, hrg, hC, hle, rfl, hb⟩ := hrel
    go_wp2_with (at_next; refine wpList_next_ranges _ rfl _ rfl 9 KS hR encStr (fun v : Value => v) (fun key kl hk => by obtain ⟨x, hx, _⟩ := keyOf_str Tryz.underlying9 hk; exact ⟨x, hx⟩) (fun v y _ => ⟨v, rfl⟩) L.mn w.heap.size n _ _ _ rfl hrg ?_ ?_)
    · intro hc0 hl0
      go_wp2
      go_ret
      have hp := hC.perm HO.out KS Tryz.underlying9 hl0
      exact ⟨ret_int (by rw [total_perm (hp.trans HKE.out) HS.out.dn]), hb⟩
    · intro x c kl yd yp w2 cnt2 hkey hlk hv hat hrg2 hlt hg2 hs2 hen
      obtain ⟨x', ex, rfl, _⟩ := keyOf_str Tryz.underlying9 hkey
      obtain rfl : x = x' := encStr_inj ex
      obtain rfl := hR_inv hv
      obtain ⟨k, hk, rfl⟩ := HAT.out x c hat
      have hb2 : Below w.heap.size w w2 := hb.grown hg2 hb.size (fun j hj => by cases hj; exact Nat.le_refl _)
      have hsz : Calls Tryz.prog 37 #[ptr (L.bl k)] w2 fun e w' => e = .returned (.int .i64 (sizeO q (some k) : Int)) ∧ w2 = w' := size_any (HH.out.below hb2) (some k) (fun j hj => by cases hj; exact HS.out.name hk)
      have htl := total_le HS.out ss
      have hss := HS.out.size (some k)
      have hmul := Nat.mul_le_mul (Nat.le_trans (Nat.le_trans (Nat.le_add_right _ cnt) hle) (Nat.le_trans hnn hN)) hN
      have HK := Lib.hid hk
      have HC := Lib.hid (hC.step hlk hat)
      have HST := Lib.hid (total_snoc q ss x)
      clear hs2 hk hv hat hkey hlk hC
      obtain ⟨S, hSe⟩ : ∃ S, sizeO q (some k) = S := ⟨_, rfl⟩
      rw [hSe] at hsz hss
      have HSE := Lib.hid hSe
      clear hSe
      obtain ⟨T, hTe⟩ : ∃ T, total q ss = T := ⟨_, rfl⟩
      have HTE := Lib.hid hTe
      rw [hTe] at htl ⊢
      clear hTe
      go_wp2_with (go_at_call 37; (with_reducible refine hsz.mono ?_); rintro e w3 ⟨rfl, rfl⟩)
      go_roundw
      case rel => exact ⟨_, cnt2, ss ++ [x], hrg2, HC.out, by simp; omega, by rw [HST.out, HK.out, HSE.out, HTE.out]; go_num, hb2⟩
      case measure => rw [hrg2.left_eq, hrg.left_eq]; exact hlt
set_option maxRecDepth 100000 in
theorem hasRoom_any {L : Lay} {q : Q} {w : World} (H : QD L q w) {N : Nat} (hS : Small N q) (hN : N ≤ 1048576) (more : Int) (_h0 : -1048576 ≤ more) (_h1 : more ≤ 1048576) : Calls Tryz.prog 44 #[ptr L.d, .int .i64 more] w fun e w' => e = .returned (.bool (hasRoomQ q more)) ∧ Below w.heap.size w w' := by
  have hu := fun W (hb : Below w.heap.size w W) => used_any (H.below hb) hS hN
  have hU : usedQ q ≤ 1099511627776 := by
    have := hS.used
    have := Nat.mul_le_mul hN hN
    omega
  have r0 := hS.r0
  have r1 := hS.r1
  have HQ : Hid (hasRoomQ q more = decide (more ≤ q.room - (usedQ q : Int))) := Lib.hid rfl
  have hall : ∀ W, Kept w W → (Kept w W ∧ W.cell? ⟨L.d, 0, none⟩ = some (.int .i64 q.room)) := fun W hb => ⟨hb, (H.below hb).c0⟩
  have HA := Lib.hid hall
  have HU := Lib.hid (fun W (hb : Kept w W) => hu W hb)
  have hk : Kept w w := Below.refl _ _
  have c0 := H.c0
  clear H hS hu hall
  generalize usedQ q = U at *
  generalize q.room = R at *
  have e1 : IntKind.i64.wrap (R - (U : Int)) = R - (U : Int) := IntWalk.i64_in _ (by omega)
  unfold ptr at *
  go_enter Tryz.func44, Tryz.ntmps44
  go_wp2
  go_region_held3 (fun W => Kept w W ∧ W.cell? ⟨L.d, 0, none⟩ = some (.int .i64 R))
    (first | assumption | exact HA.out _ (by assumption) | exact HA.out _ (Kept.drew (by assumption)) | exact HA.out _ (Kept.go (And.left (by assumption)) (by assumption)) | exact HA.out _ (Kept.go (by assumption) (by assumption)))
    ((go_at_call 12; (with_reducible refine (HU.out _ (And.left (by assumption))).mono ?_); rintro e w' ⟨rfl, b⟩))
  all_goals
    go_wp2
    go_ret
    refine ⟨ret_bool ?_, ?_⟩
    · rw [HQ.out]
    · first | exact And.left (by assumption) | exact Kept.go (And.left (by assumption)) (by assumption)
end Go.Proofs.YtbodkjifpmencaaGreat
