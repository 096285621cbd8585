/-
  Of the proof that disks answer every script as the document says: the parts VQ VR VT. No conditions.
-/
import Derived.Test.YtbodkjifpmencaaGreatY06
import Derived.Deep.DeepCutAuto
import Derived.Deep.CutBlock
import Derived.Lib.SliceRun
namespace Go.Proofs.YtbodkjifpmencaaGreat
open Go.RowKit
open Go.Lib

theorem right_is (s : ByteArray) (x : Bool) (h : rightL s.data.toList = x) (hs : s.size ≤ 281474976710656) (w : World) : Calls Tryz.prog 43 #[.string s] w fun e w' => e = .returned (.bool x) ∧ Below w.heap.size w w' := by
  rw [← h]; exact right_any s w hs
theorem dir_is (s D : ByteArray) (h : bs (dirL s.data.toList) = D) (hs : s.size ≤ 281474976710656) (w : World) : Calls Tryz.prog 38 #[.string s] w fun e w' => e = .returned (.string D) ∧ Below w.heap.size w w' := by
  rw [← h]; exact directory_any s w hs
set_option maxRecDepth 100000 in
set_option maxHeartbeats 2000000 in
theorem rename_any {L : Lay} {q : Q} {w : World} (H : QD L q w) {N : Nat} (hS : Small N q) (hN : N ≤ 1048576) (s t : ByteArray) (hs : s.size ≤ 281474976710656) (ht : t.size ≤ 281474976710656) :
    Calls Tryz.prog 27 #[ptr L.d, .string s, .string t] w fun e w' => e = .returned (.int .i64 (renameQ q s.data.toList t.data.toList).1) ∧ ∃ L', Step L q w L' (renameQ q s.data.toList t.data.toList).2 w' := by
  obtain ⟨r1, hr1⟩ : ∃ r, rightL s.data.toList = r := ⟨_, rfl⟩
  obtain ⟨r2, hr2⟩ : ∃ r, rightL t.data.toList = r := ⟨_, rfl⟩
  obtain ⟨D1, hD1⟩ : ∃ r, bs (dirL s.data.toList) = r := ⟨_, rfl⟩
  obtain ⟨D2, hD2⟩ : ∃ r, bs (dirL t.data.toList) = r := ⟨_, rfl⟩
  obtain ⟨r3, hr3⟩ : ∃ r, (D1.toList == D2.toList) = r := ⟨_, rfl⟩
  have hdd : (dirL s.data.toList == dirL t.data.toList) = r3 := by rw [← hr3, eqS, Lib.toList_data, ← hD1, ← hD2, bs_list, bs_list]
  obtain ⟨r, hr⟩ : ∃ r, (r1 && r2 && r3) = r := ⟨_, rfl⟩
  obtain ⟨e, q1, hq⟩ : ∃ e q1, beginQ q r = (e, q1) := ⟨_, _, rfl⟩
  have hB0 := fun w1 (hb : Below w.heap.size w w1) => begin_at H hS hb r e q1 hq
  have HB := Lib.hid hB0
  have hS1 : Small N q1 := by have := hS.begin r; rw [hq] at this; exact this
  have HS1 := Lib.hid hS1
  have her := begin_err q r
  rw [hq] at her
  have HER := Lib.hid her
  have HSQ : Hid (renameQ q s.data.toList t.data.toList = if e = 0 then (match look q1.names s.data.toList with | none => (60, q1) | some k => (0, if s.data.toList = t.data.toList then q1 else changeQ q1 s.data.toList t.data.toList (some k))) else (e, q1)) := Lib.hid (by unfold renameQ; rw [hr1, hr2, hdd, hr, hq]; rfl)
  have HR1 := Lib.hid (right_is s r1 hr1 hs)
  have HR2 := Lib.hid (right_is t r2 hr2 ht)
  have HD1 := Lib.hid (dir_is s D1 hD1 hs)
  have HD2 := Lib.hid (dir_is t D2 hD2 ht)
  have HRR1 := Lib.hid hr1
  have HRR2 := Lib.hid hr2
  have HR := Lib.hid hr
  -- the test of the two paths
  have HHEAD : Hid (r1 = true ∧ r2 = true ∨ r = false) := Lib.hid (by rw [← hr]; cases r1 <;> cases r2 <;> simp)
  clear hB0 hq hS1 her H hS hr1 hr2 hD1 hD2 hdd
  have HDD := Lib.hid hr3
  unfold ptr at *
  go_enter Tryz.func27, Tryz.ntmps27
  go_upto_region 1 with fail
  go_cut [7] (fun x wx => x = .bool r ∧ Below w.heap.size w wx)
  case first =>
    cases r1
    · go_wp2_with (go_at_call 43; (with_reducible refine (HR1.out _).mono ?_); rintro e w1 ⟨rfl, b1⟩)
      go_meet
      exact ⟨by rw [← HR.out]; rfl, b1⟩
    · cases r2
      · go_wp2_with (first
          | (go_at_call 43; (with_reducible refine (HR1.out _).mono ?_); rintro e w1 ⟨rfl, b1⟩)
          | (go_at_call 43; (with_reducible refine (HR2.out _).mono ?_); rintro e w2 ⟨rfl, b2⟩))
        go_meet
        exact ⟨by rw [← HR.out]; rfl, b1.trans (b2.mono b1.size)⟩
      · go_wp2_with (first
          | (go_at_call 43; (with_reducible refine (HR1.out _).mono ?_); rintro e w1 ⟨rfl, b1⟩)
          | (go_at_call 43; (with_reducible refine (HR2.out _).mono ?_); rintro e w2 ⟨rfl, b2⟩)
          | (go_at_call 38; (with_reducible refine (HD1.out _).mono ?_); rintro e w3 ⟨rfl, b3⟩)
          | (go_at_call 38; (with_reducible refine (HD2.out _).mono ?_); rintro e w4 ⟨rfl, b4⟩))
        go_meet
        have c12 := b1.trans (b2.mono b1.size)
        have c13 := c12.trans (b3.mono c12.size)
        exact ⟨by rw [← HR.out, ← hr3]; rfl, c13.trans (b4.mono c13.size)⟩
  case rest =>
    obtain ⟨rfl, hb1⟩ := hcut
    clear hr3 hr
    by_cases he : e = 0
    · subst he
      have hrt : r = true := by rcases HER.out with h | h | h <;> simp_all
      have hsl : s.size ≤ 161 ∧ t.size ≤ 161 := by
        rcases HHEAD.out with ⟨h1, h2⟩ | h
        · have a1 := right_len (HRR1.out.trans h1)
          have a2 := right_len (HRR2.out.trans h2)
          exact ⟨by rw [size_list]; exact a1, by rw [size_list]; exact a2⟩
        · rw [hrt] at h; cases h
      have HK := Lib.hid (key_str s (by unfold maxLen; omega))
      rw [if_pos rfl] at HSQ
      obtain ⟨G, hG⟩ : ∃ G, look q1.names s.data.toList = G := ⟨_, rfl⟩
      have HG := Lib.hid hG
      rw [hG] at HSQ
      clear hG hrt
      cases G with
      | none =>
        go_wp2_with (first
          | (go_at_call 42; (with_reducible refine (HB.out _ hb1).mono ?_); rintro e w2 ⟨rfl, st⟩; have c1 := st.to.c1)
          | (at_lookup; refine wpList_lookup_map _ rfl _ _ 54 rfl 9 70 KS Tryz.underlying54 (.pointer none) (zeroP _) L.mn _ rfl st.to.names _ _ rfl HK.out (.pointer none) (by rw [look_entN_get, HG.out]; rfl) ?_))
        go_ret
        rw [HSQ.out]
        exact ⟨rfl, L, st⟩
      | some k =>
        have HKL := Lib.hid (HS1.out.name HG.out)
        by_cases hst : s.data.toList = t.data.toList
        · have hneq : (s.toList == t.toList) = true := by rw [eqS, Lib.toList_data, hst]; simp
          have HST := Lib.hid hst
          clear hst
          go_wp2_with (first
            | (go_at_call 42; (with_reducible refine (HB.out _ hb1).mono ?_); rintro e w2 ⟨rfl, st⟩; have c1 := st.to.c1)
            | (at_lookup; refine wpList_lookup_map _ rfl _ _ 54 rfl 9 70 KS Tryz.underlying54 (.pointer none) (zeroP _) L.mn _ rfl st.to.names _ _ rfl HK.out (.pointer (some ⟨L.bl k, 0, none⟩)) (by rw [look_entN_get, HG.out]; rfl) ?_))
          go_ret
          rw [HSQ.out, if_pos HST.out]
          exact ⟨rfl, L, st⟩
        · have hneq : (s.toList == t.toList) = false := by rw [eqS, Lib.toList_data]; simpa using hst
          have HST := Lib.hid hst
          clear hst
          go_wp2_with (first
            | (go_at_call 42; (with_reducible refine (HB.out _ hb1).mono ?_); rintro e w2 ⟨rfl, st⟩; have c1 := st.to.c1)
            | (at_lookup; refine wpList_lookup_map _ rfl _ _ 54 rfl 9 70 KS Tryz.underlying54 (.pointer none) (zeroP _) L.mn _ rfl st.to.names _ _ rfl HK.out (.pointer (some ⟨L.bl k, 0, none⟩)) (by rw [look_entN_get, HG.out]; rfl) ?_)
            | (go_at_call 45; (with_reducible refine (change_at st.to rfl HS1.out hN s t k HKL.out hsl.1 hsl.2).mono ?_); rintro e w3 ⟨rfl, L3, st3⟩))
          go_ret
          rw [HSQ.out, if_neg HST.out]
          exact ⟨rfl, L3, st.trans st3⟩
    · rw [if_neg he] at HSQ
      have hne : (e == 0) = false := by rw [beq_eq_false_iff_ne]; exact he
      go_wp2_with (go_at_call 42; (with_reducible refine (HB.out _ hb1).mono ?_); rintro e w2 ⟨rfl, st⟩; have c1 := st.to.c1)
      go_ret
      rw [HSQ.out]
      exact ⟨rfl, L, st⟩
end Go.Proofs.YtbodkjifpmencaaGreat
namespace Go.Proofs.YtbodkjifpmencaaGreat
open Go.RowKit
open Go.Lib

theorem cellsC_len (L : Lay) (cs : List QC) : (cellsC L cs).length = 3 * cs.length := by
  unfold cellsC
  induction cs with
  | nil => rfl
  | cons c r ih => rw [List.flatMap_cons, List.length_append, ih]; simp; omega
theorem cellsC_at (L : Lay) : ∀ (cs : List QC) (j : Nat) (h : j < cs.length), (cellsC L cs)[j * 3]? = some (.string (bs cs[j].frm)) ∧ (cellsC L cs)[j * 3 + 1]? = some (.string (bs cs[j].to)) ∧ (cellsC L cs)[j * 3 + 2]? = some (ptrO L cs[j].body)
  | c :: r, 0, _ => ⟨rfl, rfl, rfl⟩
  | c :: r, j + 1, h => by
    have ih := cellsC_at L r j (by simpa using h)
    have e : cellsC L (c :: r) = [.string (bs c.frm), .string (bs c.to), ptrO L c.body] ++ cellsC L r := rfl
    rw [e]
    have x0 : (j + 1) * 3 = j * 3 + 3 := by omega
    rw [x0, List.getElem?_append_right (by simp), List.getElem?_append_right (by show 3 ≤ _; omega), List.getElem?_append_right (by show 3 ≤ _; omega)]
    simp only [List.length_cons, List.length_nil, List.getElem_cons_succ]
    have y0 : j * 3 + 3 - (0 + 1 + 1 + 1) = j * 3 := by omega
    have y1 : j * 3 + 3 + 1 - (0 + 1 + 1 + 1) = j * 3 + 1 := by omega
    have y2 : j * 3 + 3 + 2 - (0 + 1 + 1 + 1) = j * 3 + 2 := by omega
    rw [y0, y1, y2]
    exact ih
/-- A row of changes reads as they. -/
theorem rc_of_row {L : Lay} {w : World} {v : Value} {cs : List QC} (h : w.ownsRow 0 TC 3 v cs.length (cellsC L cs)) : ∃ A c, v = .slice A cs.length c ∧ RC L w A cs ∧ cs.length ≤ c := by
  have hk := fun b (hb : v.ownBlock = some b) => row_kind h hb
  rcases h.2 with ⟨rfl, hn⟩ | ⟨g, cap, cur, rfl, hb, hh, hc, hm, hsz, htake⟩
  · exact ⟨none, 0, by rw [hn], fun hz => absurd hz (by omega), by omega⟩
  · refine ⟨some ⟨g, 0, none⟩, cap, rfl, fun _ => ⟨g, 0, rfl, hk g rfl, fun j hj => ?_⟩, hc⟩
    have hc2 := cellsC_at L cs j hj
    have cell : ∀ i u, (cellsC L cs)[i]? = some u → w.cell? ⟨g, i, none⟩ = some u := fun i u hu => by
      have := h.cells (g := g) rfl i u hu
      rwa [Addr.add_mid, Nat.zero_add] at this
    rw [Nat.zero_add]
    exact ⟨cell _ _ hc2.1, cell _ _ hc2.2.1, cell _ _ hc2.2.2⟩
theorem keepQ_same (q : Q) : ∀ cs : List QC, (keepQ q cs).names = q.names ∧ (keepQ q cs).changes = q.changes ∧ (keepQ q cs).loose = q.loose ∧ (keepQ q cs).room = q.room ∧ (keepQ q cs).told = q.told ∧ (keepQ q cs).ahead = q.ahead ∧ (keepQ q cs).once = q.once := by
  intro cs
  unfold keepQ
  induction cs generalizing q with
  | nil => exact ⟨rfl, rfl, rfl, rfl, rfl, rfl, rfl⟩
  | cons c r ih =>
    rw [List.foldl_cons]
    have h := ih (keep1Q q c)
    unfold keep1Q goneQ at *
    cases hl : look q.kept c.to <;> rw [hl] at h <;> exact h
theorem Step.keep {L : Lay} {q : Q} {w w' : World} {cs : List QC} {bv : Nat → Value} (h : QD { L with bv := bv } (keepQ q cs) w') (ho : Off (keepF L q.bodies.length) w w') (hb : ∀ k, k < q.bodies.length → bv k = L.bv k ∨ bv k = .slice none 0 0) : Step L q w { L with bv := bv } (keepQ q cs) w' := by
  refine ⟨rfl, h, ho.mono (fun b hb => ?_), fun b hf => .inl ?_⟩
  · rcases hb with h | ⟨k, hk, h⟩
    · exact .inr (.inr (.inl h))
    · exact .inr (.inr (.inr (.inr (.inr (.inl ⟨k, hk, .inl h⟩)))))
  · have hl := keepQ_len q cs
    have hc := (keepQ_same q cs).2.1
    unfold foot at hf ⊢
    rw [hl, hc] at hf
    rcases hf with h | h | h | h | h | ⟨j, hj, h⟩ | h
    · exact .inl h
    · exact .inr (.inl h)
    · exact .inr (.inr (.inl h))
    · exact .inr (.inr (.inr (.inl h)))
    · exact .inr (.inr (.inr (.inr (.inl h))))
    · rcases h with h | h
      · exact .inr (.inr (.inr (.inr (.inr (.inl ⟨j, hj, .inl h⟩)))))
      · rcases hb j hj with e | e
        · exact .inr (.inr (.inr (.inr (.inr (.inl ⟨j, hj, .inr (by rw [← e]; exact h)⟩)))))
        · change (bv j).ownBlock = some b at h
          rw [e] at h; cases h
    · exact .inr (.inr (.inr (.inr (.inr (.inr h)))))
/-- One directory's changes are struck. -/
theorem QD.dropC {L : Lay} {q : Q} {w w' : World} (H : QD L q w) (d : Bs) (g : w.grownBy w' (some L.mc)) (hm : MapIs Tryz.prog 9 L.mc (entC L (dropN q.changes d)) w') : QD L { q with changes := dropN q.changes d } w' := by
  have ho : Off (fun b => some L.mc = some b) w w' := Off.of_grown g
  refine ⟨ho.blk H.disk (fun e => ne_kind H.changes.kind H.kd (by simp) (Option.some.inj e)), H.names.off ho (fun e => H.nc (Option.some.inj e).symm), H.kept.off ho (fun e => H.kc (Option.some.inj e).symm), hm, H.loose.off ho (fun e => H.cl (Option.some.inj e)), ?_, ?_, ?_, H.nk, H.nc, H.nl, H.kc, H.kl, H.cl, H.rows, fun x y b hx hy => H.chs x y b (mem_dropN.1 hx).1 (mem_dropN.1 hy).1⟩
  · exact fun k hk => ho.blk (H.bod k hk) (fun e => ne_kind H.changes.kind (H.kb hk) (by simp) (Option.some.inj e))
  · exact fun k hk => (H.row k hk).off ho (fun b hb e => ne_kind H.changes.kind (H.kr hk hb) (by simp) (Option.some.inj e))
  · intro x hx
    have hx' := (mem_dropN.1 hx).1
    exact own_off (H.chg x hx') ho (fun b hb e => ne_kind H.changes.kind (H.kg hx' hb) (by simp) (Option.some.inj e))
theorem drop_entC (L : Lay) (c : List (Bs × List QC)) (d : Bs) : dropE (entC L c) (.string d) = entC L (dropN c d) := by
  unfold dropE dropN entC
  rw [List.filter_map]
  congr 1
  refine List.filter_congr (fun x _ => ?_)
  show (!(Lit.string x.1).sameKey (.string d)) = _
  rw [sk_str]; simp
theorem Step.dropC {L : Lay} {q : Q} {w w' : World} (H : QD L q w) (d : Bs) (g : w.grownBy w' (some L.mc)) (hm : MapIs Tryz.prog 9 L.mc (entC L (dropN q.changes d)) w') : Step L q w L { q with changes := dropN q.changes d } w' :=
  ⟨rfl, H.dropC d g hm, (Off.of_grown g).mono (fun x h => .inr (.inr (.inr (.inl (Option.some.inj h).symm)))), fun b hb => .inl (by
    rcases hb with h | h | h | h | h | h | ⟨x, hx, h⟩
    · exact .inl h
    · exact .inr (.inl h)
    · exact .inr (.inr (.inl h))
    · exact .inr (.inr (.inr (.inl h)))
    · exact .inr (.inr (.inr (.inr (.inl h))))
    · exact .inr (.inr (.inr (.inr (.inr (.inl h)))))
    · exact .inr (.inr (.inr (.inr (.inr (.inr ⟨x, (mem_dropN.1 hx).1, h⟩))))))⟩
theorem chL_ok {N : Nat} {q : Q} (h : Small N q) (d : Bs) : ∀ c ∈ chL q d, c.frm.length ≤ 161 ∧ c.to.length ≤ 161 ∧ ∀ k, c.body = some k → k < q.bodies.length := by
  intro c hc
  unfold chL at hc
  cases hl : look q.changes d with
  | none => rw [hl] at hc; simp at hc
  | some cs => rw [hl] at hc; exact (h.kc _ (look_mem hl)).2 c hc
set_option maxRecDepth 100000 in
set_option maxHeartbeats 1000000 in
theorem syncDir_any {L : Lay} {q : Q} {w : World} (H : QD L q w) {N : Nat} (hS : Small N q) (hN : N ≤ 1048576) (s : ByteArray) (hs : s.size ≤ 281474976710656) :
    Calls Tryz.prog 20 #[ptr L.d, .string s] w fun e w' => e = .returned (.int .i64 (syncDirQ q s.data.toList).1) ∧ ∃ L', Step L q w L' (syncDirQ q s.data.toList).2 w' := by
  obtain ⟨r1, hr1⟩ : ∃ r, (s.data.toList == []) = r := ⟨_, rfl⟩
  obtain ⟨r2, hr2⟩ : ∃ r, isPartL s.data.toList = r := ⟨_, rfl⟩
  obtain ⟨r, hr⟩ : ∃ r, (r1 || r2) = r := ⟨_, rfl⟩
  obtain ⟨e, q1, hq⟩ : ∃ e q1, beginQ q r = (e, q1) := ⟨_, _, rfl⟩
  have hP := isPart_is s r2 hr2
  have HP := Lib.hid hP
  have hB0 := fun w1 (hb : Below w.heap.size w w1) => begin_at H hS hb r e q1 hq
  have HB := Lib.hid hB0
  have hS1 : Small N q1 := by have := hS.begin r; rw [hq] at this; exact this
  have HS1 := Lib.hid hS1
  have her := begin_err q r
  rw [hq] at her
  have HER := Lib.hid her
  have HSQ : Hid (syncDirQ q s.data.toList = if e = 0 then (0, { keepQ q1 (chL q1 s.data.toList) with changes := dropN (keepQ q1 (chL q1 s.data.toList)).changes s.data.toList }) else (e, q1)) := Lib.hid (by unfold syncDirQ chL; rw [hr1, hr2, hr, hq])
  have he1 : (s.toList == ([] : List UInt8)) = r1 := by rw [eqS]; exact hr1
  have HR := Lib.hid hr
  have hem : s.toList.isEmpty = r1 := by rw [← he1]; cases s.toList <;> rfl
  clear hB0 hq hS1 her H hS hr1 hr2 hP hr
  have HK := Lib.hid (key_str s (by unfold maxLen; omega))
  unfold ptr at *
  go_enter Tryz.func20, Tryz.ntmps20
  go_upto_region 1 with fail
  go_cut [5] (fun x wx => x = .int .i64 e ∧ Step L q w L q1 wx)
  case first =>
    have hr := HR.out
    cases r1
    · have hrr : r2 = r := by simpa using hr
      subst hrr
      clear hr
      go_wp2_with (first
        | (go_at_call 47; (with_reducible refine (HP.out _).mono ?_); rintro x w1 ⟨rfl, hb1⟩)
        | (go_at_call 42; (with_reducible refine (HB.out _ hb1).mono ?_); rintro x w2 ⟨rfl, st⟩))
      go_meet
      exact ⟨rfl, st⟩
    · have hrr : true = r := by simpa using hr
      subst hrr
      clear hr
      have hb1 : Below w.heap.size w w := Below.refl _ _
      go_wp2_with (go_at_call 42; (with_reducible refine (HB.out _ hb1).mono ?_); rintro x w2 ⟨rfl, st⟩)
      go_meet
      exact ⟨rfl, st⟩
  case rest =>
    obtain ⟨rfl, st⟩ := hcut
    clear hem he1
    by_cases he : e = 0
    · subst he
      rw [if_pos rfl] at HSQ
      obtain ⟨A, cp, hv, hRC, _⟩ := rc_of_row (st.to.chRow s.data.toList)
      obtain ⟨n, hn⟩ : ∃ n, (chL q1 s.data.toList).length = n := ⟨_, rfl⟩
      have hnN := chL_len HS1.out s.data.toList
      have hkp : Calls Tryz.prog 48 #[.pointer (some ⟨L.d, 0, none⟩), .slice A n cp] wc fun e w' => e = .returned (.tuple #[]) ∧ ∃ bv, QD { L with bv := bv } (keepQ q1 (chL q1 s.data.toList)) w' ∧ Off (keepF L q1.bodies.length) wc w' ∧ (∀ k, k < q1.bodies.length → bv k = L.bv k ∨ bv k = .slice none 0 0) := by
        rw [← hn]
        exact keep_any st.to HS1.out.keeps (chL q1 s.data.toList) A cp hRC (chL_ok HS1.out s.data.toList) (by have := HS1.out.nk; omega)
      have HKP := Lib.hid hkp
      rw [hn] at hv
      have HV := Lib.hid hv
      have HCH := Lib.hid (keepQ_same q1 (chL q1 s.data.toList)).2.1
      have c3 := st.to.c3
      have HST := Lib.hid st
      have hm := st.to.changes
      clear hkp hv hRC hn st
      go_wp2_with (first
        | (at_lookup; refine wpList_lookup_map _ rfl _ _ 55 rfl 9 87 KS Tryz.underlying55 (.slice none 0 0) (zeroS _) L.mc _ rfl hm _ _ rfl HK.out (.slice A n cp) HV.out ?_)
        | (go_at_call 48; (with_reducible refine HKP.out.mono ?_); rintro x w3 ⟨rfl, bv, h3, o3, b3⟩; have d3 : w3.cell? ⟨L.d, 3, none⟩ = some (.map (some L.mc)) := h3.c3; clear c3)
        | (at_delete; refine wpList_delete_map _ rfl _ _ 55 9 rfl 87 KS Tryz.underlying55 L.mc _ rfl h3.changes _ _ rfl HK.out ?_; intro w4 hm4 hg4))
      go_ret
      rw [HSQ.out]
      rw [drop_entC] at hm4
      have s4 := Step.dropC h3 s.data.toList hg4 hm4
      exact ⟨rfl, { L with bv := bv }, (HST.out.trans (Step.keep h3 o3 b3)).trans s4⟩
    · rw [if_neg he] at HSQ
      have hne : (e == 0) = false := by rw [beq_eq_false_iff_ne]; exact he
      go_wp2
      go_ret
      rw [HSQ.out]
      exact ⟨rfl, L, st⟩
end Go.Proofs.YtbodkjifpmencaaGreat
namespace Go.Proofs.YtbodkjifpmencaaGreat
open Go.RowKit
open Go.Lib

set_option maxRecDepth 100000 in
theorem bclone_any (l : Bs) (A : Option Addr) (c : Nat) (w : World) (hA : RB w A l) (hl : l.length ≤ 1073741824) : Calls Tryz.prog 35 #[.slice A l.length c] w fun e w' => ∃ v, e = .returned v ∧ OwnB w' w.heap.size v l ∧ Below w.heap.size w w' := by
  obtain ⟨i0, hi, hz0, hz1, hz2⟩ := info_parts Tryz.infoU8
  have hq := fun (W : World) (a : Option Addr) (n c : Nat) => Lib.run_eql_slice_nil (P := Tryz.prog) W 28 5 a n c 0 0 Tryz.underlying28
  cases A with
  | none =>
    have h0 : l = [] := by
      cases l with
      | nil => rfl
      | cons x r => obtain ⟨b, off, h, _⟩ := hA (by simp); cases h
    subst h0
    clear hA
    go_enter Tryz.func35, Tryz.ntmps35
    go_wp2
    go_ret
    exact ⟨_, rfl, World.ownsRow_nil _ _ _ _, Below.refl _ _⟩
  | some a =>
    have hcs : ∀ o, ∀ j u, (cellsB l)[j]? = some u → (w.alloc o).cell? (a.add j) = some u := by
      intro o j u hj
      have hjl : j < l.length := by have := (List.getElem?_eq_some_iff.1 hj).1; rwa [cellsB_length] at this
      obtain ⟨b, off, he, hb, hc⟩ := hA (by omega)
      cases he
      rw [cellsB_at _ j hjl] at hj
      rw [Addr.add_mid]
      exact (grown_alloc w o none).cell ((hc j hjl).trans hj) (by simp)
    have HC := Lib.hid hcs
    obtain ⟨n, hn⟩ : ∃ n, l.length = n := ⟨_, rfl⟩
    have HN := Lib.hid hn
    have hrow : ∀ o, o = Obj.cells #[] 5 → (w.alloc o).ownsRow w.heap.size 5 1 (.slice (some ⟨w.heap.size, 0, none⟩) 0 0) 0 [] := fun o ho => by rw [ho]; exact World.ownsRow_made w #[] 0 (Nat.le_refl _) (Nat.zero_le _) rfl
    have HR := Lib.hid hrow
    rw [hn] at hl ⊢
    clear hcs hA hn hrow
    go_enter Tryz.func35, Tryz.ntmps35
    go_wp2_with (at_builtin; refine wpList_append_own _ rfl _ _ 28 rfl w.heap.size 5 i0 (.int .u8 0) 1 1 Tryz.underlying28 hi hz0 hz1 hz2 rfl (by decide) (.slice (some ⟨w.heap.size, 0, none⟩) 0 0) 0 [] rfl (HR.out _ rfl) a n c (cellsB l) rfl (by rw [cellsB_length, HN.out]; simp) (HC.out _) (cellsB_one _) (by unfold maxLen; omega) (by omega) (by simp) ?_; intro v' w1 hown' hg1 _)
    go_ret
    refine ⟨v', rfl, ?_, ?_⟩
    · unfold OwnB
      rw [HN.out]
      simpa using hown'
    · exact ((Below.refl _ _).alloc (Nat.le_refl _) _).grown hg1 (by simp) (fun j hj => by simp [Value.ownBlock] at hj; omega)
/-- What is read. -/
def ReadOut (q : Q) (p : Bs) (w : World) (e : Ending) (w' : World) : Prop :=
  (match look q.names p with | none => e = .returned (.tuple #[.slice none 0 0, .int .i64 60]) | some k => ∃ v, e = .returned (.tuple #[v, .int .i64 0]) ∧ OwnB w' w.heap.size v (qbody q k).now) ∧ Below w.heap.size w w'
set_option maxRecDepth 100000 in
theorem read_any {L : Lay} {q : Q} {w : World} (H : QD L q w) {N : Nat} (hS : Small N q) (hN : N ≤ 1048576) (s : ByteArray) (hs : s.size ≤ 281474976710656) : Calls Tryz.prog 10 #[ptr L.d, .string s] w (ReadOut q s.data.toList w) := by
  have HK := Lib.hid (key_str s (by unfold maxLen; omega))
  have hm := H.names
  have c1 := H.c1
  obtain ⟨G, hG⟩ : ∃ G, look q.names s.data.toList = G := ⟨_, rfl⟩
  have HG := Lib.hid hG
  unfold ReadOut
  rw [hG]
  unfold ptr
  cases G with
  | none =>
    clear hG H hS
    go_enter Tryz.func10, Tryz.ntmps10
    go_wp2_with (at_lookup; refine wpList_lookup_map _ rfl _ _ 54 rfl 9 70 KS Tryz.underlying54 (.pointer none) (zeroP _) L.mn _ rfl hm _ _ rfl HK.out (.pointer none) (by rw [look_entN_get, HG.out]; rfl) ?_)
    go_ret2
    exact ⟨rfl, Below.refl _ _⟩
  | some k =>
    have hkl := hS.name hG
    obtain ⟨A, c, hv, _, hRB, _⟩ := (H.row k hkl).read
    have b1 := H.b1 hkl
    rw [hv] at b1
    have hcl := bclone_any (qbody q k).now A c w hRB (by have := (hS.body k).1; omega)
    have HCL := Lib.hid hcl
    obtain ⟨n, hn⟩ : ∃ n, (qbody q k).now.length = n := ⟨_, rfl⟩
    rw [hn] at b1 HCL
    clear hcl hv hRB hn hG H hS
    go_enter Tryz.func10, Tryz.ntmps10
    go_wp2_with (first
      | (at_lookup; refine wpList_lookup_map _ rfl _ _ 54 rfl 9 70 KS Tryz.underlying54 (.pointer none) (zeroP _) L.mn _ rfl hm _ _ rfl HK.out (.pointer (some ⟨L.bl k, 0, none⟩)) (by rw [look_entN_get, HG.out]; rfl) ?_)
      | (go_at_call 35; (with_reducible refine HCL.out.mono ?_); rintro e w1 ⟨v, rfl, hown, hb⟩))
    go_ret2
    exact ⟨⟨v, rfl, hown⟩, hb⟩
set_option maxRecDepth 100000 in
theorem read_nil (s : ByteArray) (w : World) : Calls Tryz.prog 10 #[.pointer none, .string s] w fun e w' => e = .returned (.tuple #[.slice none 0 0, .int .i64 1]) ∧ w = w' := by
  go_enter Tryz.func10, Tryz.ntmps10
  go_wp2
  go_ret2
  exact ⟨rfl, rfl⟩
set_option maxRecDepth 100000 in
theorem fail_any {L : Lay} {q : Q} {w : World} (H : QD L q w) (calls : Int) (once : Bool) : Calls Tryz.prog 24 #[ptr L.d, .int .i64 calls, .bool once] w fun e w' => e = .returned (.tuple #[]) ∧ Step L q w L (failQ q calls once) w' := by
  have c6 := H.c6
  have c7 := H.c7
  have c8 := H.c8
  have fr := H.free
  have HH := Lib.hid H
  clear H
  unfold ptr
  go_enter Tryz.func24, Tryz.ntmps24
  go_wp2
  go_end0
  have hd := ((HH.out.disk.set 6 (.bool true)).set 7 (.int .i64 calls)).set 8 (.bool once)
  have g1 := grown_set w L.d 6 (.bool true)
  have g2 := g1.trans (grown_set (w.setCell ⟨L.d, 6, none⟩ (.bool true)) L.d 7 (.int .i64 calls))
  have g3 := g2.trans (grown_set ((w.setCell ⟨L.d, 6, none⟩ (.bool true)).setCell ⟨L.d, 7, none⟩ (.int .i64 calls)) L.d 8 (.bool once))
  exact ⟨rfl, Step.setD HH.out g3 (failQ q calls once) rfl rfl rfl rfl rfl hd⟩
set_option maxRecDepth 100000 in
theorem fail_nil (calls : Int) (once : Bool) (w : World) : Calls Tryz.prog 24 #[.pointer none, .int .i64 calls, .bool once] w fun e w' => e = .returned (.tuple #[]) ∧ w = w' := by
  go_enter Tryz.func24, Tryz.ntmps24
  go_wp2
  first
    | (go_end0; exact ⟨rfl, rfl⟩)
    | (refine bodyPost_ret (results_none rfl _ _ _) rfl ?_; exact ⟨rfl, rfl⟩)
end Go.Proofs.YtbodkjifpmencaaGreat
