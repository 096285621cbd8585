/-
  The walk of package vfs's keep. Conditions: a disk of a modest size, right paths.
-/
import Derived.Test.YtbodkjifpmencaaGreatVK
namespace Go.Proofs.YtbodkjifpmencaaGreat
open Go.RowKit
open Go.Lib

/-- A slice that reads as changes. -/
def RC (L : Lay) (w : World) (A : Option Addr) (cs : List QC) : Prop :=
  0 < cs.length → ∃ b off, A = some ⟨b, off, none⟩ ∧ kindAt w b = some (some TC) ∧ ∀ j (h : j < cs.length), w.cell? ⟨b, off + j * 3, none⟩ = some (.string (bs cs[j].frm)) ∧ w.cell? ⟨b, off + j * 3 + 1, none⟩ = some (.string (bs cs[j].to)) ∧ w.cell? ⟨b, off + j * 3 + 2, none⟩ = some (ptrO L cs[j].body)
/-- Kept names, when one has changed. -/
theorem apply_kept {L : Lay} {q : Q} {w : World} (H : QD L q w) (hlen : q.kept.length ≤ 2097152) (c : QC) (hf : c.frm.length ≤ 161) (ht : c.to.length ≤ 161) :
    Calls Tryz.prog 68 #[aggC (bs c.frm) (bs c.to) (ptrO L c.body), .map (some L.mq)] w fun e w' => e = .returned (ptrO L (look q.kept c.to)) ∧ QD L { q with kept := applyN c q.kept } w' ∧ Off (fun b => b = L.mq) w w' := by
  have hlen : (entN L q.kept).length < maxLen := by unfold entN maxLen; rw [List.length_map]; omega
  have hl := look_entN_get L q.kept c.to
  have sf : (bs c.frm).size ≤ maxLen := by rw [bs_size]; unfold maxLen; omega
  have st : (bs c.to).size ≤ maxLen := by rw [bs_size]; unfold maxLen; omega
  have fin : ∀ w', MapIs Tryz.prog 9 L.mq (entN L (applyN c q.kept)) w' → Off (fun b => b = L.mq) w w' → QD L { q with kept := applyN c q.kept } w' := by
    intro w' hm ho
    have g : w.grownBy w' (some L.mq) := ⟨ho.os, ho.tape, ho.output, ho.size, fun k hk hne => ho.block k hk (fun e => hne (by rw [e]))⟩
    exact H.setK g _ hm
  obtain ⟨cf, ct, o⟩ := c
  cases o with
  | none =>
    refine (apply_none (bs cf) (bs ct) L.mq (entN L q.kept) w H.kept sf st).mono fun e w' ⟨h1, h2, h3⟩ => ⟨by rw [h1, bs_list, hl], fin w' ?_ h3, h3⟩
    rw [bs_list, drop_entN] at h2
    exact h2
  | some k =>
    refine (apply_some (bs cf) (bs ct) (L.bl k) L.mq (entN L q.kept) w H.kept hlen sf st).mono fun e w' ⟨h1, h2, h3⟩ => ⟨by rw [h1, bs_list, hl], fin w' ?_ h3, h3⟩
    rw [bs_list, bs_list, drop_entN] at h2
    have e := put_entN L (dropN q.kept cf) ct k
    unfold ptr at e
    rw [e] at h2
    exact h2
/-- The blocks that keep may turn. -/
def keepF (L : Lay) (n : Nat) (b : Nat) : Prop := b = L.mq ∨ ∃ k, k < n ∧ b = L.bl k
set_option maxRecDepth 100000 in
set_option maxHeartbeats 1000000 in
theorem keep_any {L : Lay} {q : Q} {w : World} (H : QD L q w) {M : Nat} (hK : Keeps M q) (cs : List QC) (A : Option Addr) (cp : Nat) (hA : RC L w A cs) (hc : ∀ c ∈ cs, c.frm.length ≤ 161 ∧ c.to.length ≤ 161 ∧ ∀ k, c.body = some k → k < q.bodies.length) (hM : M + cs.length ≤ 2097152) :
    Calls Tryz.prog 48 #[ptr L.d, .slice A cs.length cp] w fun e w' => e = .returned (.tuple #[]) ∧ ∃ bv, QD { L with bv := bv } (keepQ q cs) w' ∧ Off (keepF L q.bodies.length) w w' ∧ (∀ k, k < q.bodies.length → bv k = L.bv k ∨ bv k = .slice none 0 0) := by
  have HK := Lib.hid (hK.take cs (fun c h => ⟨(hc c h).2.1, (hc c h).2.2⟩))
  have HC := Lib.hid hc
  have HA := Lib.hid hA
  have HH := Lib.hid H
  have HL := Lib.hid (keepQ_len q)
  obtain ⟨n, hn⟩ : ∃ n, cs.length = n := ⟨_, rfl⟩
  have HN := Lib.hid hn
  rw [hn] at hM ⊢
  clear hn H hK hA hc
  unfold ptr
  go_enter Tryz.func48, Tryz.ntmps48
  go_wp2
  go_loopw [9] (fun i wr => ∃ k bv, k ≤ n ∧ i = .int .i64 k ∧ Hid (QD { L with bv := bv } (keepQ q (cs.take k)) wr ∧ Off (keepF L q.bodies.length) w wr ∧ ∀ k, k < q.bodies.length → bv k = L.bv k ∨ bv k = .slice none 0 0)) (fun i _ => n - (RowKit.intOf i).toNat)
  case atStart => exact ⟨0, L.bv, Nat.zero_le _, rfl, Lib.hid ⟨HH.out, Off.refl _ _, fun _ _ => .inl rfl⟩⟩
  case round =>
    obtain ⟨k, bv, hk, rfl, hI⟩ := hrel
    by_cases hlt : k < n
    · obtain ⟨cb, co, hAe, hkind, hcell⟩ := HA.out (by rw [HN.out]; omega)
      have hkc : k < cs.length := by rw [HN.out]; exact hlt
      obtain ⟨c0, c1, c2⟩ := hcell k hkc
      have hnf : ¬ keepF L q.bodies.length cb := fun h => by
        rcases h with h | ⟨j, hj, h⟩
        · exact ne_kind hkind HH.out.kept.kind (by simp) h
        · exact ne_kind hkind (HH.out.kb hj) (by decide) h
      obtain ⟨hQ, hO, hbv⟩ := hI.out
      have d0 := hO.cell c0 hnf
      have d1 := hO.cell c1 hnf
      have d2 := hO.cell c2 hnf
      obtain ⟨c, hc1⟩ : ∃ c, cs[k] = c := ⟨_, rfl⟩
      rw [hc1] at d0 d1 d2
      have hce : cs[k]? = some c := by rw [List.getElem?_eq_getElem hkc, hc1]
      obtain ⟨pa, hpv⟩ : ∃ v, ptrO L c.body = .pointer v := by cases c.body <;> exact ⟨_, rfl⟩
      rw [hpv] at d2
      subst hAe
      clear c0 c1 c2 hcell hkind hnf hQ hO hbv
      obtain ⟨F, hF⟩ : ∃ F, bs c.frm = F := ⟨_, rfl⟩
      obtain ⟨T, hT⟩ : ∃ F, bs c.to = F := ⟨_, rfl⟩
      rw [hF] at d0
      rw [hT] at d1
      have HF := Lib.hid hF
      have HT := Lib.hid hT
      have HCE := Lib.hid hce
      have HPV := Lib.hid hpv
      clear hF hT hce hc1 hpv hkc
      go_wp2
      obtain ⟨w3, hw3⟩ : ∃ W, wr.alloc (.cells #[.string F, .string T, .pointer pa] 112) = W := ⟨_, rfl⟩
      have hB3 : Blk wr.heap.size (.cells #[.string F, .string T, .pointer pa] TC (0, 0)) w3 := by rw [← hw3]; exact Blk.new _ _
      have hb3 : Below wr.heap.size wr w3 := by rw [← hw3]; exact (Below.refl _ _).alloc (Nat.le_refl _) _
      rw [hw3]
      clear hw3 d0 d1 d2
      obtain ⟨B, hB⟩ : ∃ B, wr.heap.size = B := ⟨_, rfl⟩
      rw [hB] at hB3 ⊢
      have e0 : w3.cell? ⟨B, 0, none⟩ = some (.string F) := hB3.cell 0
      have e1 : w3.cell? ⟨B, 1, none⟩ = some (.string T) := hB3.cell 1
      have e2 : w3.cell? ⟨B, 2, none⟩ = some (.pointer pa) := hB3.cell 2
      have c2 : w3.cell? ⟨L.d, 2, none⟩ = some (.map (some L.mq)) := (hI.out.1.below hb3).c2
      have HB := Lib.hid hB
      have HB3 := Lib.hid hb3
      clear hB hB3 hb3
      go_still_tail 5, (by kernel_rfl)
      change wpList _ _ _ _ _ w3.drew
      clear e0 e1 e2 c2
      obtain ⟨v3, hv3⟩ : ∃ W, w3.drew = W := ⟨_, rfl⟩
      have hm := HC.out c (List.mem_of_getElem? HCE.out)
      have h3 : QD { L with bv := bv } (keepQ q (cs.take k)) v3 := by rw [← hv3]; exact (hI.out.1.below HB3.out).drew
      have o3 : Off (keepF L q.bodies.length) w v3 := by rw [← hv3]; exact ((hI.out.2.1).trans (Off.of_below HB3.out) (fun _ h => h.elim)).drew
      have hkk := HK.out k (by rw [HN.out]; omega)
      have hap := apply_kept h3 (by have := hkk.len; omega) c hm.1 hm.2.1
      rw [hv3]
      rw [HF.out, HT.out, show ptrO { L with bv := bv } c.body = .pointer pa from HPV.out] at hap
      change Calls _ _ #[.agg #[.string F, .string T, .pointer pa], .map (some L.mq)] _ _ at hap
      obtain ⟨G, hG⟩ : ∃ G, look (keepQ q (cs.take k)).kept c.to = G := ⟨_, rfl⟩
      have HG := Lib.hid hG
      rw [hG] at hap
      have HO3 := Lib.hid o3
      have HKK := Lib.hid hkk
      have HTK : Hid (keepQ q (cs.take (k + 1)) = keep1Q (keepQ q (cs.take k)) c) := Lib.hid (by
        have hl := (List.getElem?_eq_some_iff.1 HCE.out)
        obtain ⟨h1, h2⟩ := hl
        rw [List.take_succ_eq_append_getElem h1, keepQ_snoc, h2])
      clear h3 o3 hkk hm hv3 hG
      cases G with
      | none =>
        change Calls _ _ _ _ (fun e w' => e = .returned (.pointer none) ∧ _) at hap
        go_wp2_with (go_at_call 68; (with_reducible refine hap.mono ?_); rintro e w4 ⟨rfl, h4, o4⟩)
        go_roundw
        case rel =>
          refine ⟨k + 1, bv, by omega, by go_num, Lib.hid ⟨?_, HO3.out.trans o4 (fun x h => .inl (.inl h)), hI.out.2.2⟩⟩
          rw [HTK.out]
          unfold keep1Q
          rw [HG.out]
          exact h4
        case measure => simp [RowKit.intOf]; omega
      | some g =>
        have hgl : g < (keepQ q (cs.take k)).bodies.length := (HKK.out.ok _ (look_mem HG.out)).2
        change Calls _ _ _ _ (fun e w' => e = .returned (.pointer (some ⟨L.bl g, 0, none⟩)) ∧ _) at hap
        go_wp2_with (go_at_call 68; (with_reducible refine hap.mono ?_); rintro e w4 ⟨rfl, h4, o4⟩; have b1 : w4.cell? ⟨L.bl g, 1, none⟩ = some (bv g) := h4.b1 hgl; have b2 : w4.cell? ⟨L.bl g, 2, none⟩ = some (.int .i64 ((qbody (keepQ q (cs.take k)) g).kept : Int)) := h4.b2 hgl; have fr : ∀ j, w4.frozen? ⟨L.bl g, j, none⟩ = false := fun j => (h4.bod g hgl).free j)
        go_roundw
        case rel =>
          have hq := HL.out (cs.take k)
          have hbg := ((h4.bod g hgl).set 1 (.slice none 0 0)).set 2 (.int .i64 0)
          have og : Off (fun b => b = L.bl g ∨ (bv g).ownBlock = some b) w4 ((w4.setCell ⟨L.bl g, 1, none⟩ (.slice none 0 0)).setCell ⟨L.bl g, 2, none⟩ (.int .i64 0)) :=
            ((Off.of_grown (grown_set w4 (L.bl g) 1 (.slice none 0 0))).mono (fun x h => .inl (Option.some.inj h).symm)).trans (Off.of_grown (grown_set _ (L.bl g) 2 (.int .i64 0))) (fun x h => .inl (.inl (Option.some.inj h).symm))
          have og2 : Off (keepF L q.bodies.length) w4 ((w4.setCell ⟨L.bl g, 1, none⟩ (.slice none 0 0)).setCell ⟨L.bl g, 2, none⟩ (.int .i64 0)) :=
            ((Off.of_grown (grown_set w4 (L.bl g) 1 (.slice none 0 0))).mono (fun x h => .inr ⟨g, by rw [← hq]; exact hgl, (Option.some.inj h).symm⟩)).trans (Off.of_grown (grown_set _ (L.bl g) 2 (.int .i64 0))) (fun x h => .inl (.inr ⟨g, by rw [← hq]; exact hgl, (Option.some.inj h).symm⟩))
          have h5 := h4.setB hgl og (.slice none 0 0) [] 0 hbg (World.ownsRow_nil _ _ _ _) (fun b hb => by cases hb)
          refine ⟨k + 1, upd bv g (.slice none 0 0), by omega, by go_num, Lib.hid ⟨?_, (HO3.out.trans o4 (fun x h => .inl (.inl h))).trans og2 (fun x h => .inl h), fun j hj => ?_⟩⟩
          · rw [HTK.out]
            unfold keep1Q
            rw [HG.out]
            exact h5
          · by_cases e : j = g
            · subst e; right; exact upd_same _ _ _
            · rw [upd_ne _ _ e]; exact hI.out.2.2 j hj
        case measure => simp [RowKit.intOf]; omega
    · obtain rfl : k = n := by omega
      go_wp2
      go_end0
      obtain ⟨hQ, hO, hbv⟩ := hI.out
      rw [List.take_of_length_le (Nat.le_of_eq HN.out)] at hQ
      exact ⟨rfl, bv, hQ, hO, hbv⟩
end Go.Proofs.YtbodkjifpmencaaGreat
