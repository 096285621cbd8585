/-
  Of the proof that disks answer every script as the document says: the parts VL VfS VfC VN. No conditions.
-/
import Derived.Test.YtbodkjifpmencaaGreatY04
import Derived.Test.YtbodkjifpmencaaGreatY01
namespace Go.Proofs.YtbodkjifpmencaaGreat
open Go.RowKit
open Go.Lib

/-- A slice that reads as changes. -/
def RC (L : Lay) (w : World) (A : Option Addr) (cs : List QC) : Prop :=
  0 < cs.length → ∃ b off, A = some ⟨b, off, none⟩ ∧ kindAt w b = some (some TC) ∧ ∀ j (h : j < cs.length), w.cell? ⟨b, off + j * 3, none⟩ = some (.string (bs cs[j].frm)) ∧ w.cell? ⟨b, off + j * 3 + 1, none⟩ = some (.string (bs cs[j].to)) ∧ w.cell? ⟨b, off + j * 3 + 2, none⟩ = some (ptrO L cs[j].body)
/-- Kept names, when one has changed. -/
theorem apply_kept {L : Lay} {q : Q} {w : World} (H : QD L q w) (hlen : q.kept.length ≤ 2097152) (c : QC) (hf : c.frm.length ≤ 161) (ht : c.to.length ≤ 161) :
    Calls Tryz.prog 68 #[aggC (bs c.frm) (bs c.to) (ptrO L c.body), .map (some L.mq)] w fun e w' => e = .returned (ptrO L (look q.kept c.to)) ∧ QD L { q with kept := applyN c q.kept } w' ∧ Off (fun b => b = L.mq) w w' := by
  have hlen : (entN L q.kept).length < maxLen := by unfold entN maxLen; rw [List.length_map]; omega
  have hl := look_entN_get L q.kept c.to
  have sf : (bs c.frm).size ≤ maxLen := by rw [bs_size]; unfold maxLen; omega
  have st : (bs c.to).size ≤ maxLen := by rw [bs_size]; unfold maxLen; omega
  have fin : ∀ w', MapIs Tryz.prog 9 L.mq (entN L (applyN c q.kept)) w' → Off (fun b => b = L.mq) w w' → QD L { q with kept := applyN c q.kept } w' := by
    intro w' hm ho
    have g : w.grownBy w' (some L.mq) := ⟨ho.os, ho.tape, ho.output, ho.size, fun k hk hne => ho.block k hk (fun e => hne (by rw [e]))⟩
    exact H.setK g _ hm
  obtain ⟨cf, ct, o⟩ := c
  cases o with
  | none =>
    refine (apply_none (bs cf) (bs ct) L.mq (entN L q.kept) w H.kept sf st).mono fun e w' ⟨h1, h2, h3⟩ => ⟨by rw [h1, bs_list, hl], fin w' ?_ h3, h3⟩
    rw [bs_list, drop_entN] at h2
    exact h2
  | some k =>
    refine (apply_some (bs cf) (bs ct) (L.bl k) L.mq (entN L q.kept) w H.kept hlen sf st).mono fun e w' ⟨h1, h2, h3⟩ => ⟨by rw [h1, bs_list, hl], fin w' ?_ h3, h3⟩
    rw [bs_list, bs_list, drop_entN] at h2
    have e := put_entN L (dropN q.kept cf) ct k
    unfold ptr at e
    rw [e] at h2
    exact h2
/-- The blocks that keep may turn. -/
def keepF (L : Lay) (n : Nat) (b : Nat) : Prop := b = L.mq ∨ ∃ k, k < n ∧ b = L.bl k
set_option maxRecDepth 100000 in
set_option maxHeartbeats 1000000 in
theorem keep_any {L : Lay} {q : Q} {w : World} (H : QD L q w) {M : Nat} (hK : Keeps M q) (cs : List QC) (A : Option Addr) (cp : Nat) (hA : RC L w A cs) (hc : ∀ c ∈ cs, c.frm.length ≤ 161 ∧ c.to.length ≤ 161 ∧ ∀ k, c.body = some k → k < q.bodies.length) (hM : M + cs.length ≤ 2097152) :
    Calls Tryz.prog 48 #[ptr L.d, .slice A cs.length cp] w fun e w' => e = .returned (.tuple #[]) ∧ ∃ bv, QD { L with bv := bv } (keepQ q cs) w' ∧ Off (keepF L q.bodies.length) w w' ∧ (∀ k, k < q.bodies.length → bv k = L.bv k ∨ bv k = .slice none 0 0) := by
  have HK := Lib.hid (hK.take cs (fun c h => ⟨(hc c h).2.1, (hc c h).2.2⟩))
  have HC := Lib.hid hc
  have HA := Lib.hid hA
  have HH := Lib.hid H
  have HL := Lib.hid (keepQ_len q)
  obtain ⟨n, hn⟩ : ∃ n, cs.length = n := ⟨_, rfl⟩
  have HN := Lib.hid hn
  rw [hn] at hM ⊢
  clear hn H hK hA hc
  unfold ptr
  go_enter Tryz.func48, Tryz.ntmps48
  go_wp2
  go_loopw [9] (fun i wr => ∃ k bv, k ≤ n ∧ i = .int .i64 k ∧ Hid (QD { L with bv := bv } (keepQ q (cs.take k)) wr ∧ Off (keepF L q.bodies.length) w wr ∧ ∀ k, k < q.bodies.length → bv k = L.bv k ∨ bv k = .slice none 0 0)) (fun i _ => n - (RowKit.intOf i).toNat)
  case atStart => exact ⟨0, L.bv, Nat.zero_le _, rfl, Lib.hid ⟨HH.out, Off.refl _ _, fun _ _ => .inl rfl⟩⟩
  case round =>
    obtain ⟨k, bv, hk, rfl, hI⟩ := hrel
    by_cases hlt : k < n
    · obtain ⟨cb, co, hAe, hkind, hcell⟩ := HA.out (by rw [HN.out]; omega)
      have hkc : k < cs.length := by rw [HN.out]; exact hlt
      obtain ⟨c0, c1, c2⟩ := hcell k hkc
      have hnf : ¬ keepF L q.bodies.length cb := fun h => by
        rcases h with h | ⟨j, hj, h⟩
        · exact ne_kind hkind HH.out.kept.kind (by simp) h
        · exact ne_kind hkind (HH.out.kb hj) (by decide) h
      obtain ⟨hQ, hO, hbv⟩ := hI.out
      have d0 := hO.cell c0 hnf
      have d1 := hO.cell c1 hnf
      have d2 := hO.cell c2 hnf
      obtain ⟨c, hc1⟩ : ∃ c, cs[k] = c := ⟨_, rfl⟩
      rw [hc1] at d0 d1 d2
      have hce : cs[k]? = some c := by rw [List.getElem?_eq_getElem hkc, hc1]
      obtain ⟨pa, hpv⟩ : ∃ v, ptrO L c.body = .pointer v := by cases c.body <;> exact ⟨_, rfl⟩
      rw [hpv] at d2
      subst hAe
      clear c0 c1 c2 hcell hkind hnf hQ hO hbv
      obtain ⟨F, hF⟩ : ∃ F, bs c.frm = F := ⟨_, rfl⟩
      obtain ⟨T, hT⟩ : ∃ F, bs c.to = F := ⟨_, rfl⟩
      rw [hF] at d0
      rw [hT] at d1
      have HF := Lib.hid hF
      have HT := Lib.hid hT
      have HCE := Lib.hid hce
      have HPV := Lib.hid hpv
      clear hF hT hce hc1 hpv hkc
      go_wp2
      obtain ⟨w3, hw3⟩ : ∃ W, wr.alloc (.cells #[.string F, .string T, .pointer pa] 112) = W := ⟨_, rfl⟩
      have hB3 : Blk wr.heap.size (.cells #[.string F, .string T, .pointer pa] TC (0, 0)) w3 := by rw [← hw3]; exact Blk.new _ _
      have hb3 : Below wr.heap.size wr w3 := by rw [← hw3]; exact (Below.refl _ _).alloc (Nat.le_refl _) _
      rw [hw3]
      clear hw3 d0 d1 d2
      obtain ⟨B, hB⟩ : ∃ B, wr.heap.size = B := ⟨_, rfl⟩
      rw [hB] at hB3 ⊢
      have e0 : w3.cell? ⟨B, 0, none⟩ = some (.string F) := hB3.cell 0
      have e1 : w3.cell? ⟨B, 1, none⟩ = some (.string T) := hB3.cell 1
      have e2 : w3.cell? ⟨B, 2, none⟩ = some (.pointer pa) := hB3.cell 2
      have c2 : w3.cell? ⟨L.d, 2, none⟩ = some (.map (some L.mq)) := (hI.out.1.below hb3).c2
      have HB := Lib.hid hB
      have HB3 := Lib.hid hb3
      clear hB hB3 hb3
      go_still_tail 5, (by kernel_rfl)
      change wpList _ _ _ _ _ w3.drew
      clear e0 e1 e2 c2
      obtain ⟨v3, hv3⟩ : ∃ W, w3.drew = W := ⟨_, rfl⟩
      have hm := HC.out c (List.mem_of_getElem? HCE.out)
      have h3 : QD { L with bv := bv } (keepQ q (cs.take k)) v3 := by rw [← hv3]; exact (hI.out.1.below HB3.out).drew
      have o3 : Off (keepF L q.bodies.length) w v3 := by rw [← hv3]; exact ((hI.out.2.1).trans (Off.of_below HB3.out) (fun _ h => h.elim)).drew
      have hkk := HK.out k (by rw [HN.out]; omega)
      have hap := apply_kept h3 (by have := hkk.len; omega) c hm.1 hm.2.1
      rw [hv3]
      rw [HF.out, HT.out, show ptrO { L with bv := bv } c.body = .pointer pa from HPV.out] at hap
      change Calls _ _ #[.agg #[.string F, .string T, .pointer pa], .map (some L.mq)] _ _ at hap
      obtain ⟨G, hG⟩ : ∃ G, look (keepQ q (cs.take k)).kept c.to = G := ⟨_, rfl⟩
      have HG := Lib.hid hG
      rw [hG] at hap
      have HO3 := Lib.hid o3
      have HKK := Lib.hid hkk
      have HTK : Hid (keepQ q (cs.take (k + 1)) = keep1Q (keepQ q (cs.take k)) c) := Lib.hid (by
        have hl := (List.getElem?_eq_some_iff.1 HCE.out)
        obtain ⟨h1, h2⟩ := hl
        rw [List.take_succ_eq_append_getElem h1, keepQ_snoc, h2])
      clear h3 o3 hkk hm hv3 hG
      cases G with
      | none =>
        change Calls _ _ _ _ (fun e w' => e = .returned (.pointer none) ∧ _) at hap
        go_wp2_with (go_at_call 68; (with_reducible refine hap.mono ?_); rintro e w4 ⟨rfl, h4, o4⟩)
        go_roundw
        case rel =>
          refine ⟨k + 1, bv, by omega, by go_num, Lib.hid ⟨?_, HO3.out.trans o4 (fun x h => .inl (.inl h)), hI.out.2.2⟩⟩
          rw [HTK.out]
          unfold keep1Q
          rw [HG.out]
          exact h4
        case measure => simp [RowKit.intOf]; omega
      | some g =>
        have hgl : g < (keepQ q (cs.take k)).bodies.length := (HKK.out.ok _ (look_mem HG.out)).2
        change Calls _ _ _ _ (fun e w' => e = .returned (.pointer (some ⟨L.bl g, 0, none⟩)) ∧ _) at hap
        go_wp2_with (go_at_call 68; (with_reducible refine hap.mono ?_); rintro e w4 ⟨rfl, h4, o4⟩; have b1 : w4.cell? ⟨L.bl g, 1, none⟩ = some (bv g) := h4.b1 hgl; have b2 : w4.cell? ⟨L.bl g, 2, none⟩ = some (.int .i64 ((qbody (keepQ q (cs.take k)) g).kept : Int)) := h4.b2 hgl; have fr : ∀ j, w4.frozen? ⟨L.bl g, j, none⟩ = false := fun j => (h4.bod g hgl).free j)
        go_roundw
        case rel =>
          have hq := HL.out (cs.take k)
          have hbg := ((h4.bod g hgl).set 1 (.slice none 0 0)).set 2 (.int .i64 0)
          have og : Off (fun b => b = L.bl g ∨ (bv g).ownBlock = some b) w4 ((w4.setCell ⟨L.bl g, 1, none⟩ (.slice none 0 0)).setCell ⟨L.bl g, 2, none⟩ (.int .i64 0)) :=
            ((Off.of_grown (grown_set w4 (L.bl g) 1 (.slice none 0 0))).mono (fun x h => .inl (Option.some.inj h).symm)).trans (Off.of_grown (grown_set _ (L.bl g) 2 (.int .i64 0))) (fun x h => .inl (.inl (Option.some.inj h).symm))
          have og2 : Off (keepF L q.bodies.length) w4 ((w4.setCell ⟨L.bl g, 1, none⟩ (.slice none 0 0)).setCell ⟨L.bl g, 2, none⟩ (.int .i64 0)) :=
            ((Off.of_grown (grown_set w4 (L.bl g) 1 (.slice none 0 0))).mono (fun x h => .inr ⟨g, by rw [← hq]; exact hgl, (Option.some.inj h).symm⟩)).trans (Off.of_grown (grown_set _ (L.bl g) 2 (.int .i64 0))) (fun x h => .inl (.inr ⟨g, by rw [← hq]; exact hgl, (Option.some.inj h).symm⟩))
          have h5 := h4.setB hgl og (.slice none 0 0) [] 0 hbg (World.ownsRow_nil _ _ _ _) (fun b hb => by cases hb)
          refine ⟨k + 1, upd bv g (.slice none 0 0), by omega, by go_num, Lib.hid ⟨?_, (HO3.out.trans o4 (fun x h => .inl (.inl h))).trans og2 (fun x h => .inl h), fun j hj => ?_⟩⟩
          · rw [HTK.out]
            unfold keep1Q
            rw [HG.out]
            exact h5
          · by_cases e : j = g
            · subst e; right; exact upd_same _ _ _
            · rw [upd_ne _ _ e]; exact hI.out.2.2 j hj
        case measure => simp [RowKit.intOf]; omega
    · obtain rfl : k = n := by omega
      go_wp2
      go_end0
      obtain ⟨hQ, hO, hbv⟩ := hI.out
      rw [List.take_of_length_le (Nat.le_of_eq HN.out)] at hQ
      exact ⟨rfl, bv, hQ, hO, hbv⟩
end Go.Proofs.YtbodkjifpmencaaGreat
namespace Go.Proofs.YtbodkjifpmencaaGreat

section
variable {κ β : Type} [DecidableEq κ]
theorem dropN_len (l : List (κ × β)) (p : κ) : (dropN l p).length ≤ l.length := List.length_filter_le _ _
theorem putN_len (l : List (κ × β)) (p : κ) (k : β) : (putN l p k).length ≤ l.length + 1 := by
  unfold putN; rw [List.length_append]; have := dropN_len l p; simp; omega
theorem dropN_nodup {l : List (κ × β)} {p : κ} (h : (l.map (·.1)).Nodup) : ((dropN l p).map (·.1)).Nodup := by
  unfold dropN
  exact h.sublist ((List.filter_sublist).map _)
theorem putN_nodup {l : List (κ × β)} {p : κ} {k : β} (h : (l.map (·.1)).Nodup) : ((putN l p k).map (·.1)).Nodup := by
  unfold putN
  rw [List.map_append, List.nodup_append]
  refine ⟨dropN_nodup h, by simp, fun a ha b hb e => ?_⟩
  obtain ⟨x, hx, rfl⟩ := List.mem_map.1 ha
  simp at hb
  unfold dropN at hx
  have := (List.mem_filter.1 hx).2
  simp at this
  exact this (e.trans hb)
theorem mem_put {l : List (κ × β)} {p : κ} {k : β} {x : κ × β} (h : x ∈ putN l p k) : x ∈ l ∨ x = (p, k) := by
  unfold putN dropN at h
  rcases List.mem_append.1 h with h | h
  · exact .inl (List.mem_filter.1 h).1
  · simp at h; exact .inr h
theorem mem_drop {l : List (κ × β)} {p : κ} {x : κ × β} (h : x ∈ dropN l p) : x ∈ l := (List.mem_filter.1 h).1
end
theorem applyN_nodup {c : QC} {l : Nm} (h : (l.map (·.1)).Nodup) : ((applyN c l).map (·.1)).Nodup := by
  unfold applyN
  cases c.body with
  | none => exact dropN_nodup h
  | some k => exact putN_nodup (dropN_nodup h)
theorem sum_drop (c : List (Bs × List QC)) (d : Bs) : (((dropN c d).map fun x => x.2.length).sum) + ((look c d).getD []).length ≤ (c.map fun x => x.2.length).sum := by
  induction c with
  | nil => simp [dropN, look]
  | cons x r ih =>
    by_cases h : x.1 = d
    · have e1 : dropN (x :: r) d = dropN r d := by unfold dropN; rw [List.filter_cons_of_neg (by simpa using h)]
      have e2 : look (x :: r) d = some x.2 := by unfold look; rw [List.find?_cons_of_pos (by simpa using h)]; rfl
      rw [e1, e2]
      have : ((dropN r d).map fun x => x.2.length).sum ≤ (r.map fun x => x.2.length).sum := by omega
      simp only [List.map_cons, List.sum_cons, Option.getD_some]
      omega
    · have e1 : dropN (x :: r) d = x :: dropN r d := by unfold dropN; rw [List.filter_cons_of_pos (by simpa using h)]
      have e2 : look (x :: r) d = look r d := by unfold look; rw [List.find?_cons_of_neg (by simpa using h)]
      rw [e1, e2]
      simp only [List.map_cons, List.sum_cons]
      omega
theorem sum_put (c : List (Bs × List QC)) (d : Bs) (cs : List QC) : ((putN c d cs).map fun x => x.2.length).sum + ((look c d).getD []).length ≤ (c.map fun x => x.2.length).sum + cs.length := by
  have := sum_drop c d
  unfold putN
  rw [List.map_append, List.sum_append]
  simp
  omega
theorem Small.mono {N M : Nat} {q : Q} (h : Small N q) (hm : N ≤ M) : Small M q :=
  ⟨Nat.le_trans h.nb hm, Nat.le_trans h.nn hm, Nat.le_trans h.nk hm, Nat.le_trans h.nc hm, Nat.le_trans h.nl hm, fun b hb => ⟨Nat.le_trans (h.now b hb).1 hm, (h.now b hb).2⟩, h.kn, h.kk, h.kc, h.kl, h.r0, h.r1, h.a0, h.a1, h.dn, h.dk, h.dc, h.dl⟩
theorem Small.new (room : Int) (h : room ≤ 9223372036854775807) : Small 0 (qNew room) := by
  refine ⟨?_, ?_, ?_, ?_, ?_, ?_, ?_, ?_, ?_, ?_, ?_, ?_, ?_, ?_, ?_, ?_, ?_, ?_⟩ <;> simp [qNew] <;> omega
theorem Small.strike {N : Nat} {q : Q} (h : Small N q) : Small N (strikeQ q).2 := by
  obtain ⟨h1, h2, h3, h4, h5, h6, h7, h8, h9, h10, h11, h12, h13, h14, h15, h16, h17, h18⟩ := h
  unfold strikeQ
  split
  · split
    · exact ⟨h1, h2, h3, h4, h5, h6, h7, h8, h9, h10, h11, h12, by show _ ≤ q.ahead - 1; omega, by show q.ahead - 1 ≤ _; omega, h15, h16, h17, h18⟩
    · exact ⟨h1, h2, h3, h4, h5, h6, h7, h8, h9, h10, h11, h12, h13, h14, h15, h16, h17, h18⟩
  · exact ⟨h1, h2, h3, h4, h5, h6, h7, h8, h9, h10, h11, h12, h13, h14, h15, h16, h17, h18⟩
theorem begin_snd (q : Q) (r : Bool) : (beginQ q r).2 = if r then (strikeQ q).2 else q := by
  unfold beginQ
  cases r
  · rfl
  · rcases strikeQ q with ⟨a, b⟩
    cases a <;> rfl
theorem Small.begin {N : Nat} {q : Q} (h : Small N q) (r : Bool) : Small N (beginQ q r).2 := by
  rw [begin_snd]
  cases r
  · exact h
  · exact h.strike
theorem Small.fail {N : Nat} {q : Q} (h : Small N q) (calls : Int) (once : Bool) (h0 : -9223372036854775808 ≤ calls) (h1 : calls ≤ 9223372036854775807) : Small N (failQ q calls once) := by
  obtain ⟨a1, a2, a3, a4, a5, a6, a7, a8, a9, a10, a11, a12, _, _, a15, a16, a17, a18⟩ := h
  exact ⟨a1, a2, a3, a4, a5, a6, a7, a8, a9, a10, a11, a12, h0, h1, a15, a16, a17, a18⟩
theorem mem_set_of {α : Type} {l : List α} {k : Nat} {x y : α} (h : y ∈ l.set k x) : y ∈ l ∨ y = x := by
  rcases List.mem_or_eq_of_mem_set h with h | h
  · exact .inl h
  · exact .inr h
theorem Small.setB {N M : Nat} {q : Q} (h : Small N q) (hm : N ≤ M) (k : Nat) (x : QB) (h1 : x.now.length ≤ M) (h2 : x.kept ≤ x.now.length) (l : List (Nat × Unit)) (hl : l.length ≤ M) (hk : ∀ y ∈ l, y.1 < q.bodies.length) (hd : (l.map (·.1)).Nodup) :
    Small M { q with bodies := q.bodies.set k x, loose := l } := by
  have h' := h.mono hm
  refine ⟨by simpa using h'.nb, h'.nn, h'.nk, h'.nc, hl, fun b hb => ?_, ?_, ?_, ?_, ?_, h'.r0, h'.r1, h'.a0, h'.a1, h'.dn, h'.dk, h'.dc, hd⟩
  · rcases mem_set_of hb with hb | rfl
    · exact h'.now b hb
    · exact ⟨h1, h2⟩
  · intro y hy; have := h.kn y hy; simpa using this
  · intro y hy; have := h.kk y hy; simpa using this
  · intro y hy; have := h.kc y hy; simpa using this
  · intro y hy; simpa using hk y hy
theorem Small.extend {N : Nat} {q : Q} (h : Small N q) {k : Nat} (hk : k < q.bodies.length) (b : Bs) : Small (N + 1 + b.length) (extendQ q k b) := by
  unfold extendQ
  by_cases hb : b = []
  · rw [if_pos hb]; exact h.mono (by omega)
  · rw [if_neg hb]
    have hq := h.body k
    refine h.setB (by omega) k _ (by simp; omega) (by simp; omega) _ (by have := putN_len q.loose k (); have := h.nl; omega) (fun y hy => ?_) (putN_nodup h.dl)
    rcases mem_put hy with hy | rfl
    · exact h.kl y hy
    · exact hk
theorem Small.addB {N : Nat} {q : Q} (h : Small N q) : Small (N + 1) { q with bodies := q.bodies ++ [⟨[], 0⟩] } := by
  have h' := h.mono (Nat.le_succ N)
  refine ⟨by simp; exact h.nb, h'.nn, h'.nk, h'.nc, h'.nl, fun b hb => ?_, ?_, ?_, ?_, ?_, h'.r0, h'.r1, h'.a0, h'.a1, h'.dn, h'.dk, h'.dc, h'.dl⟩
  · rcases List.mem_append.1 hb with hb | hb
    · exact h'.now b hb
    · simp at hb; subst hb; simp
  · intro y hy; have := h.kn y hy; simp; omega
  · intro y hy; have := h.kk y hy; simp; omega
  · intro y hy
    have := h.kc y hy
    refine ⟨this.1, fun c hc => ⟨(this.2 c hc).1, (this.2 c hc).2.1, fun k hk => ?_⟩⟩
    have := (this.2 c hc).2.2 k hk
    simp; omega
  · intro y hy; have := h.kl y hy; simp; omega
theorem Small.newBody {N : Nat} {q : Q} (h : Small N q) (b : Bs) : Small (N + 2 + b.length) (newBodyQ q b) := by
  unfold newBodyQ
  exact (h.addB.extend (by simp) b).mono (by omega)
theorem newBody_len (q : Q) (b : Bs) : (newBodyQ q b).bodies.length = q.bodies.length + 1 := by
  unfold newBodyQ extendQ
  split <;> simp
theorem Small.change {N : Nat} {q : Q} (h : Small N q) (frm to : Bs) (o : Option Nat) (hf : frm.length ≤ 161) (ht : to.length ≤ 161) (hd : (dirL frm).length ≤ 161) (ho : ∀ k, o = some k → k < q.bodies.length) : Small (N + 1) (changeQ q frm to o) := by
  have h' := h.mono (Nat.le_succ N)
  unfold changeQ
  refine ⟨h'.nb, ?_, ?_, ?_, h'.nl, h'.now, fun x hx => ?_, h'.kk, fun x hx => ?_, h'.kl, h'.r0, h'.r1, h'.a0, h'.a1, applyN_nodup h.dn, h'.dk, putN_nodup h.dc, h'.dl⟩
  · have := len_applyN ⟨frm, to, o⟩ q.names; have := h.nn; show (applyN _ _).length ≤ _; omega
  · have h1 := sum_put q.changes (dirL frm) ((look q.changes (dirL frm)).getD [] ++ [⟨frm, to, o⟩])
    have h2 := h.nk
    rw [List.length_append] at h1
    simp only [List.length_singleton] at h1
    show q.kept.length + (List.map (fun x => x.2.length) (putN q.changes (dirL frm) ((look q.changes (dirL frm)).getD [] ++ [⟨frm, to, o⟩]))).sum ≤ N + 1
    omega
  · have := putN_len q.changes (dirL frm) ((look q.changes (dirL frm)).getD [] ++ [⟨frm, to, o⟩]); have := h.nc; show (putN _ _ _).length ≤ _; omega
  · rcases mem_applyN hx with hx | ⟨h1, h2⟩
    · exact h.kn x hx
    · exact ⟨by rw [h1]; exact ht, ho _ h2⟩
  · rcases mem_put hx with hx | rfl
    · exact h.kc x hx
    · refine ⟨hd, fun c hc => ?_⟩
      rcases List.mem_append.1 hc with hc | hc
      · cases hl : look q.changes (dirL frm) with
        | none => rw [hl] at hc; simp at hc
        | some cs =>
          rw [hl] at hc
          exact (h.kc _ (look_mem hl)).2 c hc
      · simp at hc; subst hc; exact ⟨hf, ht, ho⟩
end Go.Proofs.YtbodkjifpmencaaGreat
namespace Go.Proofs.YtbodkjifpmencaaGreat

theorem next_le (ks : List Int) (most : Nat) : (nextQ ks most).1 ≤ most := by
  unfold nextQ
  cases ks with
  | nil => simp
  | cons z r =>
    have h1 := Int.emod_lt_of_pos z (show (0 : Int) < (most : Int) + 1 by omega)
    have h2 := Int.emod_nonneg z (show (most : Int) + 1 ≠ 0 by omega)
    show (z % ((most : Int) + 1)).toNat ≤ most
    omega
theorem next_sub (ks : List Int) (most : Nat) : ∀ z ∈ (nextQ ks most).2, z ∈ ks := by
  unfold nextQ
  cases ks with
  | nil => simp
  | cons z r => intro x hx; exact List.mem_cons_of_mem _ hx
theorem next_len (ks : List Int) (most : Nat) : (nextQ ks most).2.length ≤ ks.length := by
  unfold nextQ
  cases ks with
  | nil => simp
  | cons z r => simp
/-- What holds while bodies stay. -/
structure StayInv (N : Nat) (q : Q) (ks : List Int) (s : Q × List Int) : Prop where
  small : Small N s.1
  loose : s.1.loose = q.loose
  changes : s.1.changes = q.changes
  len : s.1.bodies.length = q.bodies.length
  kept : s.1.kept = q.kept
  sub : ∀ z ∈ s.2, z ∈ ks
  kl : s.2.length ≤ ks.length
theorem StayInv.start {N : Nat} {q : Q} (h : Small N q) (ks : List Int) : StayInv N q ks (q, ks) := ⟨h, rfl, rfl, rfl, rfl, fun _ h => h, Nat.le_refl _⟩
theorem stay_kept {N : Nat} {q : Q} (h : Small N q) (ks : List Int) (k : Nat) : (qbody q k).kept + (nextQ ks ((qbody q k).now.length - (qbody q k).kept)).1 ≤ (qbody q k).now.length := by
  have := next_le ks ((qbody q k).now.length - (qbody q k).kept)
  have := (h.body k).2
  omega
theorem StayInv.step {N : Nat} {q : Q} {ks : List Int} {s : Q × List Int} (h : StayInv N q ks s) (k : Nat) : StayInv N q ks (stay1Q s k) := by
  have hk := stay_kept h.small s.2 k
  have hb := h.small.body k
  refine ⟨?_, h.loose, h.changes, by show (s.1.bodies.set _ _).length = _; rw [List.length_set]; exact h.len, h.kept, fun z hz => h.sub z (next_sub _ _ z hz), Nat.le_trans (next_len _ _) h.kl⟩
  have h1 : ((qbody s.1 k).now.take ((qbody s.1 k).kept + (nextQ s.2 ((qbody s.1 k).now.length - (qbody s.1 k).kept)).1)).length = (qbody s.1 k).kept + (nextQ s.2 ((qbody s.1 k).now.length - (qbody s.1 k).kept)).1 := by rw [List.length_take]; omega
  exact h.small.setB (Nat.le_refl _) k ⟨(qbody s.1 k).now.take ((qbody s.1 k).kept + (nextQ s.2 ((qbody s.1 k).now.length - (qbody s.1 k).kept)).1), (qbody s.1 k).kept + (nextQ s.2 ((qbody s.1 k).now.length - (qbody s.1 k).kept)).1⟩ (by show (List.take _ _).length ≤ N; rw [h1]; have := hb.1; omega) (Nat.le_of_eq h1.symm) s.1.loose h.small.nl h.small.kl h.small.dl
theorem foldl_take {α β : Type} (f : β → α → β) (b : β) (l : List α) (k : Nat) (h : k < l.length) : (l.take (k + 1)).foldl f b = f ((l.take k).foldl f b) l[k] := by
  rw [List.take_succ_eq_append_getElem h, List.foldl_append]; rfl
def stayAll (q : Q) (ks : List Int) (l : List Nat) (k : Nat) : Q × List Int := (l.take k).foldl stay1Q (q, ks)
theorem stayAll_inv {N : Nat} {q : Q} (h : Small N q) (ks : List Int) (l : List Nat) : ∀ k, k ≤ l.length → StayInv N q ks (stayAll q ks l k) := by
  intro k
  induction k with
  | zero => intro _; exact StayInv.start h ks
  | succ k ih =>
    intro hk
    unfold stayAll
    rw [foldl_take _ _ _ _ (by omega)]
    exact (ih (by omega)).step _
theorem stayAll_succ (q : Q) (ks : List Int) (l : List Nat) (k : Nat) (h : k < l.length) : stayAll q ks l (k + 1) = stay1Q (stayAll q ks l k) l[k] := foldl_take _ _ _ _ h
/-! ### Directories -/
def dirAll (s : Q × List Int) (l : List Bs) (k : Nat) : Q × List Int := (l.take k).foldl keepDir1Q s
theorem dirAll_succ (s : Q × List Int) (l : List Bs) (k : Nat) (h : k < l.length) : dirAll s l (k + 1) = keepDir1Q (dirAll s l k) l[k] := foldl_take _ _ _ _ h
def lens (q : Q) (l : List Bs) : Nat := (l.map fun d => ((look q.changes d).getD []).length).sum
structure DirInv (q : Q) (ks : List Int) (M : Nat) (s : Q × List Int) : Prop where
  keeps : Keeps M s.1
  changes : s.1.changes = q.changes
  len : s.1.bodies.length = q.bodies.length
  loose : s.1.loose = q.loose
  names : s.1.names = q.names
  sub : ∀ z ∈ s.2, z ∈ ks
  kl : s.2.length ≤ ks.length
theorem keepQ_same' (q : Q) : ∀ cs : List QC, (keepQ q cs).names = q.names ∧ (keepQ q cs).changes = q.changes ∧ (keepQ q cs).loose = q.loose := by
  intro cs
  unfold keepQ
  induction cs generalizing q with
  | nil => exact ⟨rfl, rfl, rfl⟩
  | cons c r ih =>
    rw [List.foldl_cons]
    have h := ih (keep1Q q c)
    unfold keep1Q goneQ at *
    cases hl : look q.kept c.to <;> rw [hl] at h <;> exact h
theorem DirInv.step {q : Q} {ks : List Int} {M : Nat} {s : Q × List Int} (h : DirInv q ks M s) {N : Nat} (hS : Small N q) (d : Bs) : DirInv q ks (M + ((look q.changes d).getD []).length) (keepDir1Q s d) := by
  have hn := next_le s.2 ((look s.1.changes d).getD []).length
  have hok : ∀ c ∈ ((look s.1.changes d).getD []), c.to.length ≤ 161 ∧ ∀ k, c.body = some k → k < s.1.bodies.length := by
    intro c hc
    rw [h.changes] at hc
    cases hl : look q.changes d with
    | none => rw [hl] at hc; simp at hc
    | some cs =>
      rw [hl] at hc
      have := (hS.kc _ (look_mem hl)).2 c hc
      exact ⟨this.2.1, fun k hk => by rw [h.len]; exact this.2.2 k hk⟩
  obtain ⟨h1, h2, h3⟩ := keepQ_same' s.1 (((look s.1.changes d).getD []).take (nextQ s.2 ((look s.1.changes d).getD []).length).1)
  refine ⟨?_, h2.trans h.changes, (keepQ_len _ _).trans h.len, h3.trans h.loose, h1.trans h.names, fun z hz => h.sub z (next_sub _ _ z hz), Nat.le_trans (next_len _ _) h.kl⟩
  have := h.keeps.take _ hok (nextQ s.2 ((look s.1.changes d).getD []).length).1 hn
  refine ⟨Nat.le_trans this.len ?_, this.ok⟩
  rw [← h.changes]
  omega
theorem lens_take (q : Q) (l : List Bs) (k : Nat) (h : k < l.length) : lens q (l.take (k + 1)) = lens q (l.take k) + ((look q.changes l[k]).getD []).length := by
  unfold lens
  rw [List.take_succ_eq_append_getElem h, List.map_append, List.sum_append]
  simp
theorem dirAll_inv {N : Nat} {q : Q} (hS : Small N q) (ks : List Int) (l : List Bs) : ∀ k, k ≤ l.length → DirInv q ks (q.kept.length + lens q (l.take k)) (dirAll (q, ks) l k) := by
  intro k
  induction k with
  | zero => intro _; exact ⟨⟨by simp [dirAll], hS.kk⟩, rfl, rfl, rfl, rfl, fun _ h => h, Nat.le_refl _⟩
  | succ k ih =>
    intro hk
    have h := (ih (by omega)).step hS l[k]
    rw [dirAll_succ _ _ _ (by omega), lens_take q l k (by omega), ← Nat.add_assoc]
    exact h
theorem lens_all {q : Q} {l : List Bs} (hp : l.Perm (q.changes.map (·.1))) (hd : (q.changes.map (·.1)).Nodup) : lens q l = (q.changes.map fun x => x.2.length).sum := by
  unfold lens
  rw [(hp.map _).sum_nat, List.map_map]
  congr 1
  refine List.map_congr_left (fun x hx => ?_)
  show ((look q.changes x.1).getD []).length = _
  rw [look_of_mem hd hx]; rfl
theorem lens_le (q : Q) (l : List Bs) (k : Nat) : lens q (l.take k) ≤ lens q l := by
  unfold lens
  conv => rhs; rw [← List.take_append_drop k l]
  rw [List.map_append, List.sum_append]
  omega
/-- The sorted numbers, the sorted directories. -/
def looseS (q : Q) : List Nat := (q.loose.map (·.1)).mergeSort (fun x y => decide (x ≤ y))
def dirsS (q : Q) : List Bs := (q.changes.map (·.1)).mergeSort leB2
theorem looseS_mem {q : Q} {k : Nat} (h : k ∈ looseS q) : k ∈ q.loose.map (·.1) := (List.mergeSort_perm _ _).mem_iff.1 h
theorem dirsS_perm (q : Q) : (dirsS q).Perm (q.changes.map (·.1)) := List.mergeSort_perm _ _
theorem crashA_eq (q : Q) (ks : List Int) : crashA q ks = stayAll q ks (looseS q) (looseS q).length := by unfold crashA stayAll looseS; rw [List.take_length]
theorem crashB_eq (s : Q × List Int) : crashB s = dirAll ({ s.1 with loose := [] }, s.2) (dirsS s.1) (dirsS s.1).length := by unfold crashB dirAll dirsS; rw [List.take_length]
/-- Sorted, as numbers of the other kind. -/
theorem sort_cast (ss : List Int) (l : List Nat) (h : ss.Perm (l.map fun (k : Nat) => (k : Int))) : ss.mergeSort (fun x y => decide (x ≤ y)) = (l.mergeSort (fun x y => decide (x ≤ y))).map fun (k : Nat) => (k : Int) := by
  have tr : ∀ a b c : Int, decide (a ≤ b) = true → decide (b ≤ c) = true → decide (a ≤ c) = true := fun a b c h1 h2 => by simp only [decide_eq_true_eq] at *; omega
  have to : ∀ a b : Int, (decide (a ≤ b) || decide (b ≤ a)) = true := fun a b => by simp only [Bool.or_eq_true, decide_eq_true_eq]; omega
  have tr2 : ∀ a b c : Nat, decide (a ≤ b) = true → decide (b ≤ c) = true → decide (a ≤ c) = true := fun a b c h1 h2 => by simp only [decide_eq_true_eq] at *; omega
  have to2 : ∀ a b : Nat, (decide (a ≤ b) || decide (b ≤ a)) = true := fun a b => by simp only [Bool.or_eq_true, decide_eq_true_eq]; omega
  refine List.Perm.eq_of_pairwise (le := fun a b => decide (a ≤ b) = true) (fun a b _ _ h1 h2 => ?_) (List.pairwise_mergeSort tr to ss) ?_ (((List.mergeSort_perm ss _).trans h).trans ((List.mergeSort_perm l _).symm.map _))
  · simp only [decide_eq_true_eq] at h1 h2; omega
  · rw [List.pairwise_map]
    refine (List.pairwise_mergeSort tr2 to2 l).imp (fun {a b} h => ?_)
    simp only [decide_eq_true_eq] at h ⊢
    omega
end Go.Proofs.YtbodkjifpmencaaGreat
namespace Go.Proofs.YtbodkjifpmencaaGreat
open Go.RowKit
open Go.Lib

theorem begin_same (q : Q) (r : Bool) : (beginQ q r).2.bodies = q.bodies ∧ (beginQ q r).2.names = q.names ∧ (beginQ q r).2.kept = q.kept ∧ (beginQ q r).2.changes = q.changes ∧ (beginQ q r).2.loose = q.loose ∧ (beginQ q r).2.room = q.room := by
  rw [begin_snd]
  cases r
  · exact ⟨rfl, rfl, rfl, rfl, rfl, rfl⟩
  · unfold strikeQ
    simp only [if_true]
    split
    · split <;> exact ⟨rfl, rfl, rfl, rfl, rfl, rfl⟩
    · exact ⟨rfl, rfl, rfl, rfl, rfl, rfl⟩
theorem begin_err (q : Q) (r : Bool) : (beginQ q r).1 = 0 ∧ r = true ∨ (beginQ q r).1 = 2 ∨ (beginQ q r).1 = 62 := by
  unfold beginQ
  cases r
  · exact .inr (.inl rfl)
  · rcases strikeQ q with ⟨a, b⟩
    cases a
    · exact .inl ⟨rfl, rfl⟩
    · exact .inr (.inr rfl)
theorem foot_begin {L : Lay} {q : Q} {r : Bool} {b : Nat} : foot L (beginQ q r).2 b ↔ foot L q b := by
  obtain ⟨h1, _, _, h4, _⟩ := begin_same q r
  unfold foot
  rw [h1, h4]
/-- Right, then begin: at one call's head. -/
theorem begin_at {L : Lay} {q : Q} {w w1 : World} (H : QD L q w) {N : Nat} (hS : Small N q) (hb : Below w.heap.size w w1) (r : Bool) (e : Int) (q1 : Q) (hq : beginQ q r = (e, q1)) : Calls Tryz.prog 42 #[ptr L.d, .bool r] w1 fun x w' => x = .returned (.int .i64 e) ∧ Step L q w L q1 w' := by
  refine (begin_any (H.below hb) r hS.a0 hS.a1).mono fun x w' ⟨h1, h2⟩ => ?_
  rw [hq] at h1 h2
  exact ⟨h1, (Step.below H hb).trans h2⟩
set_option maxRecDepth 100000 in
set_option maxHeartbeats 1000000 in
theorem sync_any {L : Lay} {q : Q} {w : World} (H : QD L q w) {N : Nat} (hS : Small N q) (hN : N ≤ 1048576) (s : ByteArray) (hs : s.size ≤ 281474976710656) :
    Calls Tryz.prog 19 #[ptr L.d, .string s] w fun e w' => e = .returned (.int .i64 (syncQ q s.data.toList).1) ∧ ∃ L', Step L q w L' (syncQ q s.data.toList).2 w' := by
  obtain ⟨r, hr⟩ : ∃ r, rightL s.data.toList = r := ⟨_, rfl⟩
  obtain ⟨e, q1, hq⟩ : ∃ e q1, beginQ q r = (e, q1) := ⟨_, _, rfl⟩
  have hR := right_any s
  rw [hr] at hR
  have HR := Lib.hid (fun w => hR w hs)
  have hB0 := fun w1 (hb : Below w.heap.size w w1) => begin_at H hS hb r e q1 hq
  have HB := Lib.hid hB0
  have hS1 : Small N q1 := by have := hS.begin r; rw [hq] at this; exact this
  have her := begin_err q r
  rw [hq] at her
  have HSQ : Hid (syncQ q s.data.toList = if e = 0 then (match look q1.names s.data.toList with | none => (60, q1) | some k => (0, { q1 with bodies := q1.bodies.set k ⟨(qbody q1 k).now, (qbody q1 k).now.length⟩, loose := dropN q1.loose k })) else (e, q1)) := Lib.hid (by unfold syncQ; rw [hr, hq]; rfl)
  have HS1 := Lib.hid hS1
  have HRL := Lib.hid hr
  have HER := Lib.hid her
  clear hR hB0 hq hS1 hr her H hS
  by_cases he : e = 0
  · subst he
    have hk : keyOf Tryz.prog 9 (.string s) = some (.string s.data.toList) := key_str s (by unfold maxLen; omega)
    have HK := Lib.hid hk
    clear hk
    rw [if_pos rfl] at HSQ
    obtain ⟨G, hG⟩ : ∃ G, look q1.names s.data.toList = G := ⟨_, rfl⟩
    have HG := Lib.hid hG
    rw [hG] at HSQ
    clear hG
    cases G with
    | none =>
      unfold ptr at *
      go_enter Tryz.func19, Tryz.ntmps19
      go_wp2_with (first
        | (go_at_call 43; (with_reducible refine (HR.out _).mono ?_); rintro e w1 ⟨rfl, hb1⟩)
        | (go_at_call 42; (with_reducible refine (HB.out _ hb1).mono ?_); rintro e w2 ⟨rfl, st⟩; have c1 := st.to.c1)
        | (at_lookup; refine wpList_lookup_map _ rfl _ _ 54 rfl 9 70 KS Tryz.underlying54 (.pointer none) (zeroP _) L.mn _ rfl st.to.names _ _ rfl HK.out (.pointer none) (by rw [look_entN_get, HG.out]; rfl) ?_))
      go_ret
      rw [HSQ.out]
      exact ⟨rfl, L, st⟩
    | some k =>
      obtain ⟨nw, hnw⟩ : ∃ n, (qbody q1 k).now.length = n := ⟨_, rfl⟩
      have hkl : k < q1.bodies.length := HS1.out.name HG.out
      have HKL := Lib.hid hkl
      have hk20 : k ≤ 1048576 := by have := HS1.out.nb; omega
      have hnl : nw ≤ 1048576 := by have := (HS1.out.body k).1; omega
      have hsz : ∀ W, QD L q1 W → Calls Tryz.prog 37 #[.pointer (some ⟨L.bl k, 0, none⟩)] W fun e w' => e = .returned (.int .i64 (nw : Int)) ∧ W = w' := fun W h => by
        have := size_any h (some k) (fun j hj => by cases hj; exact hkl)
        rw [show sizeO q1 (some k) = nw from hnw] at this
        exact this
      have HSZ := Lib.hid hsz
      have HNW := Lib.hid hnw
      have hs2 : syncQ q s.data.toList = (0, { q1 with bodies := q1.bodies.set k ⟨(qbody q1 k).now, nw⟩, loose := dropN q1.loose k }) := by rw [HSQ.out, ← hnw]
      have HSQ2 := Lib.hid hs2
      clear hsz hkl hnw hs2
      unfold ptr at *
      go_enter Tryz.func19, Tryz.ntmps19
      go_wp2_with (first
        | (go_at_call 43; (with_reducible refine (HR.out _).mono ?_); rintro e w1 ⟨rfl, hb1⟩)
        | (go_at_call 42; (with_reducible refine (HB.out _ hb1).mono ?_); rintro e w2 ⟨rfl, st⟩; have c1 := st.to.c1)
        | (at_lookup; refine wpList_lookup_map _ rfl _ _ 54 rfl 9 70 KS Tryz.underlying54 (.pointer none) (zeroP _) L.mn _ rfl st.to.names _ _ rfl HK.out (.pointer (some ⟨L.bl k, 0, none⟩)) (by rw [look_entN_get, HG.out]; rfl) ?_; have b2 := st.to.b2 HKL.out; have f2 := (st.to.bod k HKL.out).free 2)
        | (go_at_call 37; (with_reducible refine (HSZ.out _ st.to).mono ?_); rintro e w3 ⟨rfl, rfl⟩))
      have hb2 := (st.to.bod k HKL.out).set 2 (.int .i64 (nw : Int))
      have hg2 := grown_set w2 (L.bl k) 2 (.int .i64 (nw : Int))
      clear b2 f2 c1
      obtain ⟨w3, hw3⟩ : ∃ W, w2.setCell ⟨L.bl k, 2, none⟩ (.int .i64 (nw : Int)) = W := ⟨_, rfl⟩
      rw [hw3] at hb2 hg2 ⊢
      clear hw3
      have H3 : QD (upB L k (L.bv k)) { q1 with bodies := q1.bodies.set k ⟨(qbody q1 k).now, nw⟩ } w3 :=
        st.to.setB HKL.out ((Off.of_grown hg2).mono (fun x h => .inl (Option.some.inj h).symm)) (L.bv k) (qbody q1 k).now nw hb2 ((st.to.row k HKL.out).off (Off.of_grown hg2) (fun b hb e => ne_kind (st.to.kr HKL.out hb) (st.to.kb HKL.out) (by decide) (Option.some.inj e).symm)) (fun b hb => .inl hb)
      have st3 : Step L q w (upB L k (L.bv k)) { q1 with bodies := q1.bodies.set k ⟨(qbody q1 k).now, nw⟩ } w3 :=
        st.trans ⟨rfl, H3, (Off.of_grown hg2).mono (fun x h => .inr (.inr (.inr (.inr (.inr (.inl ⟨k, HKL.out, .inl (Option.some.inj h).symm⟩)))))), fun b hb => foot_setB (q := q1) (x := ⟨(qbody q1 k).now, nw⟩) (l := q1.loose) HKL.out (L.bv k) (fun b hb => .inl hb) hb⟩
      have HST := Lib.hid st3
      have c4 : w3.cell? ⟨L.d, 4, none⟩ = some (.map (some L.ml)) := H3.c4
      have b0 : w3.cell? ⟨L.bl k, 0, none⟩ = some (.int .i64 (k : Int)) := hb2.cell 0
      clear H3 st3 hb2 hg2
      go_still_tail 8, (by kernel_rfl)
      change wpList _ _ _ _ _ w3.drew
      clear c4 b0
      have hm : MapIs Tryz.prog 3 L.ml (entL L q1.loose) w3.drew := HST.out.to.loose
      go_wp2_with (at_delete; refine wpList_delete_map _ rfl _ _ 56 3 rfl 70 KI Tryz.underlying56 L.ml _ rfl hm _ _ rfl (key_nat k hk20) ?_; intro w4 hm4 hg4)
      go_ret
      rw [drop_entL] at hm4
      rw [HSQ2.out]
      have H4 := HST.out.to.drew.setL hg4 (dropN q1.loose k) hm4
      refine ⟨rfl, upB L k (L.bv k), HST.out.trans ⟨rfl, H4, ?_, fun b hb => .inl hb⟩⟩
      exact ((Off.refl _ w3).drew).trans (Off.of_grown hg4) (fun x h => .inl (.inr (.inr (.inr (.inr (.inl (Option.some.inj h).symm))))))
  · rw [if_neg he] at HSQ
    have hne : (e == 0) = false := by rw [beq_eq_false_iff_ne]; exact he
    unfold ptr at *
    go_enter Tryz.func19, Tryz.ntmps19
    go_wp2_with (first
      | (go_at_call 43; (with_reducible refine (HR.out _).mono ?_); rintro e w1 ⟨rfl, hb1⟩)
      | (go_at_call 42; (with_reducible refine (HB.out _ hb1).mono ?_); rintro e w2 ⟨rfl, st⟩))
    go_ret
    rw [HSQ.out]
    exact ⟨rfl, L, st⟩
end Go.Proofs.YtbodkjifpmencaaGreat
