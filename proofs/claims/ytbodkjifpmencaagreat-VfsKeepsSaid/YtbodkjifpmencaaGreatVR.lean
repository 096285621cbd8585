/-
  The walk of package vfs's SyncDir. Conditions: a disk of a modest size.
-/
import Derived.Test.YtbodkjifpmencaaGreatVQ
namespace Go.Proofs.YtbodkjifpmencaaGreat
open Go.RowKit
open Go.Lib

theorem cellsC_len (L : Lay) (cs : List QC) : (cellsC L cs).length = 3 * cs.length := by
  unfold cellsC
  induction cs with
  | nil => rfl
  | cons c r ih => rw [List.flatMap_cons, List.length_append, ih]; simp; omega
theorem cellsC_at (L : Lay) : ∀ (cs : List QC) (j : Nat) (h : j < cs.length), (cellsC L cs)[j * 3]? = some (.string (bs cs[j].frm)) ∧ (cellsC L cs)[j * 3 + 1]? = some (.string (bs cs[j].to)) ∧ (cellsC L cs)[j * 3 + 2]? = some (ptrO L cs[j].body)
  | c :: r, 0, _ => ⟨rfl, rfl, rfl⟩
  | c :: r, j + 1, h => by
    have ih := cellsC_at L r j (by simpa using h)
    have e : cellsC L (c :: r) = [.string (bs c.frm), .string (bs c.to), ptrO L c.body] ++ cellsC L r := rfl
    rw [e]
    have x0 : (j + 1) * 3 = j * 3 + 3 := by omega
    rw [x0, List.getElem?_append_right (by simp), List.getElem?_append_right (by show 3 ≤ _; omega), List.getElem?_append_right (by show 3 ≤ _; omega)]
    simp only [List.length_cons, List.length_nil, List.getElem_cons_succ]
    have y0 : j * 3 + 3 - (0 + 1 + 1 + 1) = j * 3 := by omega
    have y1 : j * 3 + 3 + 1 - (0 + 1 + 1 + 1) = j * 3 + 1 := by omega
    have y2 : j * 3 + 3 + 2 - (0 + 1 + 1 + 1) = j * 3 + 2 := by omega
    rw [y0, y1, y2]
    exact ih
/-- A row of changes reads as they. -/
theorem rc_of_row {L : Lay} {w : World} {v : Value} {cs : List QC} (h : w.ownsRow 0 TC 3 v cs.length (cellsC L cs)) : ∃ A c, v = .slice A cs.length c ∧ RC L w A cs ∧ cs.length ≤ c := by
  have hk := fun b (hb : v.ownBlock = some b) => row_kind h hb
  rcases h.2 with ⟨rfl, hn⟩ | ⟨g, cap, cur, rfl, hb, hh, hc, hm, hsz, htake⟩
  · exact ⟨none, 0, by rw [hn], fun hz => absurd hz (by omega), by omega⟩
  · refine ⟨some ⟨g, 0, none⟩, cap, rfl, fun _ => ⟨g, 0, rfl, hk g rfl, fun j hj => ?_⟩, hc⟩
    have hc2 := cellsC_at L cs j hj
    have cell : ∀ i u, (cellsC L cs)[i]? = some u → w.cell? ⟨g, i, none⟩ = some u := fun i u hu => by
      have := h.cells (g := g) rfl i u hu
      rwa [Addr.add_mid, Nat.zero_add] at this
    rw [Nat.zero_add]
    exact ⟨cell _ _ hc2.1, cell _ _ hc2.2.1, cell _ _ hc2.2.2⟩
theorem keepQ_same (q : Q) : ∀ cs : List QC, (keepQ q cs).names = q.names ∧ (keepQ q cs).changes = q.changes ∧ (keepQ q cs).loose = q.loose ∧ (keepQ q cs).room = q.room ∧ (keepQ q cs).told = q.told ∧ (keepQ q cs).ahead = q.ahead ∧ (keepQ q cs).once = q.once := by
  intro cs
  unfold keepQ
  induction cs generalizing q with
  | nil => exact ⟨rfl, rfl, rfl, rfl, rfl, rfl, rfl⟩
  | cons c r ih =>
    rw [List.foldl_cons]
    have h := ih (keep1Q q c)
    unfold keep1Q goneQ at *
    cases hl : look q.kept c.to <;> rw [hl] at h <;> exact h
theorem Step.keep {L : Lay} {q : Q} {w w' : World} {cs : List QC} {bv : Nat → Value} (h : QD { L with bv := bv } (keepQ q cs) w') (ho : Off (keepF L q.bodies.length) w w') (hb : ∀ k, k < q.bodies.length → bv k = L.bv k ∨ bv k = .slice none 0 0) : Step L q w { L with bv := bv } (keepQ q cs) w' := by
  refine ⟨rfl, h, ho.mono (fun b hb => ?_), fun b hf => .inl ?_⟩
  · rcases hb with h | ⟨k, hk, h⟩
    · exact .inr (.inr (.inl h))
    · exact .inr (.inr (.inr (.inr (.inr (.inl ⟨k, hk, .inl h⟩)))))
  · have hl := keepQ_len q cs
    have hc := (keepQ_same q cs).2.1
    unfold foot at hf ⊢
    rw [hl, hc] at hf
    rcases hf with h | h | h | h | h | ⟨j, hj, h⟩ | h
    · exact .inl h
    · exact .inr (.inl h)
    · exact .inr (.inr (.inl h))
    · exact .inr (.inr (.inr (.inl h)))
    · exact .inr (.inr (.inr (.inr (.inl h))))
    · rcases h with h | h
      · exact .inr (.inr (.inr (.inr (.inr (.inl ⟨j, hj, .inl h⟩)))))
      · rcases hb j hj with e | e
        · exact .inr (.inr (.inr (.inr (.inr (.inl ⟨j, hj, .inr (by rw [← e]; exact h)⟩)))))
        · change (bv j).ownBlock = some b at h
          rw [e] at h; cases h
    · exact .inr (.inr (.inr (.inr (.inr (.inr h)))))
/-- One directory's changes are struck. -/
theorem QD.dropC {L : Lay} {q : Q} {w w' : World} (H : QD L q w) (d : Bs) (g : w.grownBy w' (some L.mc)) (hm : MapIs Tryz.prog 9 L.mc (entC L (dropN q.changes d)) w') : QD L { q with changes := dropN q.changes d } w' := by
  have ho : Off (fun b => some L.mc = some b) w w' := Off.of_grown g
  refine ⟨ho.blk H.disk (fun e => ne_kind H.changes.kind H.kd (by simp) (Option.some.inj e)), H.names.off ho (fun e => H.nc (Option.some.inj e).symm), H.kept.off ho (fun e => H.kc (Option.some.inj e).symm), hm, H.loose.off ho (fun e => H.cl (Option.some.inj e)), ?_, ?_, ?_, H.nk, H.nc, H.nl, H.kc, H.kl, H.cl, H.rows, fun x y b hx hy => H.chs x y b (mem_dropN.1 hx).1 (mem_dropN.1 hy).1⟩
  · exact fun k hk => ho.blk (H.bod k hk) (fun e => ne_kind H.changes.kind (H.kb hk) (by simp) (Option.some.inj e))
  · exact fun k hk => (H.row k hk).off ho (fun b hb e => ne_kind H.changes.kind (H.kr hk hb) (by simp) (Option.some.inj e))
  · intro x hx
    have hx' := (mem_dropN.1 hx).1
    exact own_off (H.chg x hx') ho (fun b hb e => ne_kind H.changes.kind (H.kg hx' hb) (by simp) (Option.some.inj e))
theorem drop_entC (L : Lay) (c : List (Bs × List QC)) (d : Bs) : dropE (entC L c) (.string d) = entC L (dropN c d) := by
  unfold dropE dropN entC
  rw [List.filter_map]
  congr 1
  refine List.filter_congr (fun x _ => ?_)
  show (!(Lit.string x.1).sameKey (.string d)) = _
  rw [sk_str]; simp
theorem Step.dropC {L : Lay} {q : Q} {w w' : World} (H : QD L q w) (d : Bs) (g : w.grownBy w' (some L.mc)) (hm : MapIs Tryz.prog 9 L.mc (entC L (dropN q.changes d)) w') : Step L q w L { q with changes := dropN q.changes d } w' :=
  ⟨rfl, H.dropC d g hm, (Off.of_grown g).mono (fun x h => .inr (.inr (.inr (.inl (Option.some.inj h).symm)))), fun b hb => .inl (by
    rcases hb with h | h | h | h | h | h | ⟨x, hx, h⟩
    · exact .inl h
    · exact .inr (.inl h)
    · exact .inr (.inr (.inl h))
    · exact .inr (.inr (.inr (.inl h)))
    · exact .inr (.inr (.inr (.inr (.inl h))))
    · exact .inr (.inr (.inr (.inr (.inr (.inl h)))))
    · exact .inr (.inr (.inr (.inr (.inr (.inr ⟨x, (mem_dropN.1 hx).1, h⟩))))))⟩
theorem chL_ok {N : Nat} {q : Q} (h : Small N q) (d : Bs) : ∀ c ∈ chL q d, c.frm.length ≤ 161 ∧ c.to.length ≤ 161 ∧ ∀ k, c.body = some k → k < q.bodies.length := by
  intro c hc
  unfold chL at hc
  cases hl : look q.changes d with
  | none => rw [hl] at hc; simp at hc
  | some cs => rw [hl] at hc; exact (h.kc _ (look_mem hl)).2 c hc
set_option maxRecDepth 100000 in
set_option maxHeartbeats 1000000 in
theorem syncDir_any {L : Lay} {q : Q} {w : World} (H : QD L q w) {N : Nat} (hS : Small N q) (hN : N ≤ 1048576) (s : ByteArray) (hs : s.size ≤ 281474976710656) :
    Calls Tryz.prog 20 #[ptr L.d, .string s] w fun e w' => e = .returned (.int .i64 (syncDirQ q s.data.toList).1) ∧ ∃ L', Step L q w L' (syncDirQ q s.data.toList).2 w' := by
  obtain ⟨r1, hr1⟩ : ∃ r, (s.data.toList == []) = r := ⟨_, rfl⟩
  obtain ⟨r2, hr2⟩ : ∃ r, isPartL s.data.toList = r := ⟨_, rfl⟩
  obtain ⟨r, hr⟩ : ∃ r, (r1 || r2) = r := ⟨_, rfl⟩
  obtain ⟨e, q1, hq⟩ : ∃ e q1, beginQ q r = (e, q1) := ⟨_, _, rfl⟩
  have hP := isPart_is s r2 hr2
  have HP := Lib.hid hP
  have hB0 := fun w1 (hb : Below w.heap.size w w1) => begin_at H hS hb r e q1 hq
  have HB := Lib.hid hB0
  have hS1 : Small N q1 := by have := hS.begin r; rw [hq] at this; exact this
  have HS1 := Lib.hid hS1
  have her := begin_err q r
  rw [hq] at her
  have HER := Lib.hid her
  have HSQ : Hid (syncDirQ q s.data.toList = if e = 0 then (0, { keepQ q1 (chL q1 s.data.toList) with changes := dropN (keepQ q1 (chL q1 s.data.toList)).changes s.data.toList }) else (e, q1)) := Lib.hid (by unfold syncDirQ chL; rw [hr1, hr2, hr, hq])
  have he1 : (s.toList == ([] : List UInt8)) = r1 := by rw [eqS]; exact hr1
  have HR := Lib.hid hr
  have hem : s.toList.isEmpty = r1 := by rw [← he1]; cases s.toList <;> rfl
  clear hB0 hq hS1 her H hS hr1 hr2 hP hr
  have HK := Lib.hid (key_str s (by unfold maxLen; omega))
  unfold ptr at *
  go_enter Tryz.func20, Tryz.ntmps20
  go_upto_region 1 with fail
  go_cut [5] (fun x wx => x = .int .i64 e ∧ Step L q w L q1 wx)
  case first =>
    have hr := HR.out
    cases r1
    · have hrr : r2 = r := by simpa using hr
      subst hrr
      clear hr
      go_wp2_with (first
        | (go_at_call 47; (with_reducible refine (HP.out _).mono ?_); rintro x w1 ⟨rfl, hb1⟩)
        | (go_at_call 42; (with_reducible refine (HB.out _ hb1).mono ?_); rintro x w2 ⟨rfl, st⟩))
      go_meet
      exact ⟨rfl, st⟩
    · have hrr : true = r := by simpa using hr
      subst hrr
      clear hr
      have hb1 : Below w.heap.size w w := Below.refl _ _
      go_wp2_with (go_at_call 42; (with_reducible refine (HB.out _ hb1).mono ?_); rintro x w2 ⟨rfl, st⟩)
      go_meet
      exact ⟨rfl, st⟩
  case rest =>
    obtain ⟨rfl, st⟩ := hcut
    clear hem he1
    by_cases he : e = 0
    · subst he
      rw [if_pos rfl] at HSQ
      obtain ⟨A, cp, hv, hRC, _⟩ := rc_of_row (st.to.chRow s.data.toList)
      obtain ⟨n, hn⟩ : ∃ n, (chL q1 s.data.toList).length = n := ⟨_, rfl⟩
      have hnN := chL_len HS1.out s.data.toList
      have hkp : Calls Tryz.prog 48 #[.pointer (some ⟨L.d, 0, none⟩), .slice A n cp] wc fun e w' => e = .returned (.tuple #[]) ∧ ∃ bv, QD { L with bv := bv } (keepQ q1 (chL q1 s.data.toList)) w' ∧ Off (keepF L q1.bodies.length) wc w' ∧ (∀ k, k < q1.bodies.length → bv k = L.bv k ∨ bv k = .slice none 0 0) := by
        rw [← hn]
        exact keep_any st.to HS1.out.keeps (chL q1 s.data.toList) A cp hRC (chL_ok HS1.out s.data.toList) (by have := HS1.out.nk; omega)
      have HKP := Lib.hid hkp
      rw [hn] at hv
      have HV := Lib.hid hv
      have HCH := Lib.hid (keepQ_same q1 (chL q1 s.data.toList)).2.1
      have c3 := st.to.c3
      have HST := Lib.hid st
      have hm := st.to.changes
      clear hkp hv hRC hn st
      go_wp2_with (first
        | (at_lookup; refine wpList_lookup_map _ rfl _ _ 55 rfl 9 87 KS Tryz.underlying55 (.slice none 0 0) (zeroS _) L.mc _ rfl hm _ _ rfl HK.out (.slice A n cp) HV.out ?_)
        | (go_at_call 48; (with_reducible refine HKP.out.mono ?_); rintro x w3 ⟨rfl, bv, h3, o3, b3⟩; have d3 : w3.cell? ⟨L.d, 3, none⟩ = some (.map (some L.mc)) := h3.c3; clear c3)
        | (at_delete; refine wpList_delete_map _ rfl _ _ 55 9 rfl 87 KS Tryz.underlying55 L.mc _ rfl h3.changes _ _ rfl HK.out ?_; intro w4 hm4 hg4))
      go_ret
      rw [HSQ.out]
      rw [drop_entC] at hm4
      have s4 := Step.dropC h3 s.data.toList hg4 hm4
      exact ⟨rfl, { L with bv := bv }, (HST.out.trans (Step.keep h3 o3 b3)).trans s4⟩
    · rw [if_neg he] at HSQ
      have hne : (e == 0) = false := by rw [beq_eq_false_iff_ne]; exact he
      go_wp2
      go_ret
      rw [HSQ.out]
      exact ⟨rfl, L, st⟩
end Go.Proofs.YtbodkjifpmencaaGreat
