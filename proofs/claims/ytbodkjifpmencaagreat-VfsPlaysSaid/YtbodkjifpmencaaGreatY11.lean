/-
  The walk of package vfs's Crash. Conditions: a disk of a modest size, at most a million numbers.
-/
import Derived.Test.YtbodkjifpmencaaGreatY10
namespace Go.Proofs.YtbodkjifpmencaaGreat
open Go.RowKit
open Go.Lib

theorem zeroPB (w : World) : (zeroValue 70).run Tryz.prog w = .ok (.pointer none) w := by kernel_rfl
theorem looseS_len (q : Q) : (looseS q).length = q.loose.length := by unfold looseS; rw [(List.mergeSort_perm _ _).length_eq, List.length_map]
theorem dirsS_len (q : Q) : (dirsS q).length = q.changes.length := by rw [(dirsS_perm q).length_eq, List.length_map]
theorem sortedC_at {L : Lay} {q : Q} {w : World} (H : QD L q w) (hl : q.changes.length ≤ 1048576) (n : Nat) (hn : (dirsS q).length = n) :
    Calls Tryz.prog 55 #[.func (.func 74) #[] #[.pointer (some ⟨w.heap.size, 0, none⟩)]] (w.alloc (.cells #[.map (some L.mc)] 55)) fun e w' => ∃ A c, e = .returned (.slice A n c) ∧ RT w' A (dirsS q) ∧ (∀ b, aBlock A = some b → w.heap.size ≤ b ∧ b < w'.heap.size) ∧ Below w.heap.size w w' := by
  rw [← hn]; exact sortedC H hl
/-- One directory's round: what is kept of its changes. -/
theorem keep_step {L : Lay} {s : Q × List Int} {w : World} {ks : List Int} {M N : Nat} {q0 : Q} (hI : DirInv q0 ks M s) (hS : Small N q0) (d : Bs) (hM : M + (chL q0 d).length ≤ 2097152) {D : Nat} (hD : L.d = D) {kb : Nat} {P : Nat → Prop} (H : QD L s.1 w) (hkb : ¬ foot L s.1 kb) (hP : ∀ x, P x → ¬ foot L s.1 x) (A : Option Addr) (n c : Nat) (hv : chV L s.1 d = .slice A n c) (hn : (chL s.1 d).length = n)
    (v5 : World) (hb5 : Box kb (nextQ s.2 n).2 v5 P) (ho : Off (fun b => b = kb) w v5) :
    Calls Tryz.prog 48 #[.pointer (some ⟨D, 0, none⟩), .slice (cutZ A c 0 3) (nextQ s.2 n).1 c] v5 fun e w' => e = .returned (.tuple #[]) ∧ ∃ L', StepX (fun b => b = kb) L s.1 w L' (keepDir1Q s d).1 w' ∧ Box kb (keepDir1Q s d).2 w' P := by
  subst hD
  have st1 : StepX (fun b => b = kb) L s.1 w L s.1 v5 := StepX.side H ho (fun b hb => hb ▸ hkb)
  obtain ⟨A', c', hv', hRC, _⟩ := rc_of_row (st1.tq.chRow d)
  rw [hv] at hv'
  injection hv' with e1 e2 e3
  subst e1 e3
  have hnl : (nextQ s.2 n).1 ≤ n := next_le s.2 n
  have hcs : chL s.1 d = chL q0 d := by unfold chL; rw [hI.changes]
  have hlen : ((chL s.1 d).take (nextQ s.2 n).1).length = (nextQ s.2 n).1 := by rw [List.length_take]; omega
  have hok : ∀ x ∈ (chL s.1 d).take (nextQ s.2 n).1, x.frm.length ≤ 161 ∧ x.to.length ≤ 161 ∧ ∀ k, x.body = some k → k < s.1.bodies.length := by
    intro x hx
    have hx' := List.mem_of_mem_take hx
    rw [hcs] at hx'
    have := chL_ok hS d x hx'
    exact ⟨this.1, this.2.1, fun k hk => by rw [hI.len]; exact this.2.2 k hk⟩
  have hk := keep_any st1.tq hI.keeps ((chL s.1 d).take (nextQ s.2 n).1) (cutZ A c 0 3) c (hRC.upto c _ (by omega)) hok (by rw [hlen]; have hn' : (chL q0 d).length = n := (by rw [← hcs]; exact hn); omega)
  rw [hlen] at hk
  refine hk.mono fun e w' ⟨h1, bv, h2, h3, h4⟩ => ?_
  have hst := Step.keep h2 h3 h4
  have hq : (keepDir1Q s d).1 = keepQ s.1 ((chL s.1 d).take (nextQ s.2 n).1) := by unfold keepDir1Q; rw [← hn]; rfl
  have hk2 : (keepDir1Q s d).2 = (nextQ s.2 n).2 := by unfold keepDir1Q; rw [← hn]; rfl
  rw [hq, hk2]
  exact ⟨h1, _, st1.trans (StepX.of hst), hb5.off hst.off hkb hP⟩
/-- No changes are left; the map of names is another one. -/
theorem Step.clearC {L : Lay} {q : Q} {w w' : World} (H : QD L q w) (g : w.grownBy w' (some L.mc)) (hm : MapIs Tryz.prog 9 L.mc [] w') : Step L q w L { q with changes := [] } w' :=
  ⟨rfl, H.clearC g hm, (Off.of_grown g).mono (fun x h => .inr (.inr (.inr (.inl (Option.some.inj h).symm)))), fun b hb => .inl (by
    rcases hb with h | h | h | h | h | h | ⟨x, hx, h⟩
    · exact .inl h
    · exact .inr (.inl h)
    · exact .inr (.inr (.inl h))
    · exact .inr (.inr (.inr (.inl h)))
    · exact .inr (.inr (.inr (.inr (.inl h))))
    · exact .inr (.inr (.inr (.inr (.inr (.inl h)))))
    · cases hx)⟩
theorem Step.setMn {L : Lay} {q : Q} {w w1 w2 : World} (H : QD L q w) (n : Nm) (m : Nat) (hb : Below w.heap.size w w1) (hm : MapIs Tryz.prog 9 m (entN L n) w1) (hge : w.heap.size ≤ m) (g : w1.grownBy w2 (some L.d)) (q' : Q) (h1 : q'.bodies = q.bodies) (h2 : q'.names = n) (h3 : q'.kept = q.kept) (h4 : q'.changes = q.changes) (h5 : q'.loose = q.loose)
    (hd : Blk L.d (.cells (dcells { L with mn := m } q') TD (0, 0)) w2) : Step L q w { L with mn := m } q' w2 :=
  ⟨rfl, H.setMn n m hb hm hge g q' h1 h2 h3 h4 h5 hd, ((Off.of_below hb).mono (fun _ h => h.elim)).trans (Off.of_grown g) (fun x h => .inl (.inl (Option.some.inj h).symm)), fun b hb => by
    rcases hb with h | h | h | h | h | ⟨k, hk, h⟩ | ⟨x, hx, h⟩
    · exact .inl (.inl h)
    · exact .inr (by show w.heap.size ≤ b; rw [show b = m from h]; exact hge)
    · exact .inl (.inr (.inr (.inl h)))
    · exact .inl (.inr (.inr (.inr (.inl h))))
    · exact .inl (.inr (.inr (.inr (.inr (.inl h)))))
    · exact .inl (.inr (.inr (.inr (.inr (.inr (.inl ⟨k, by rw [← h1]; exact hk, h⟩))))))
    · exact .inl (.inr (.inr (.inr (.inr (.inr (.inr ⟨x, by rw [← h4]; exact hx, h⟩))))))⟩
/-- The bounds of a directory's round. -/
theorem dir_bound {N : Nat} {q : Q} (hS : Small N q) (hN : N ≤ 1048576) (k : Nat) (hk : k < (dirsS q).length) : q.kept.length + lens q ((dirsS q).take k) + (chL q (dirsS q)[k]).length ≤ 2097152 ∧ (chL q (dirsS q)[k]).length ≤ 1048576 ∧ (dirsS q)[k].length ≤ 161 := by
  have h1 := lens_take q (dirsS q) k hk
  have h2 := lens_le q (dirsS q) (k + 1)
  have h3 := lens_all (dirsS_perm q) hS.dc
  have h4 := hS.nk
  have h5 : (chL q (dirsS q)[k]).length = ((look q.changes (dirsS q)[k]).getD []).length := rfl
  have hmem : (dirsS q)[k] ∈ q.changes.map (·.1) := (dirsS_perm q).mem_iff.1 (List.getElem_mem hk)
  refine ⟨by omega, by omega, ?_⟩
  obtain ⟨x, hx, he⟩ := List.mem_map.1 hmem
  rw [← he]
  exact (hS.kc x hx).1
set_option maxRecDepth 100000 in
theorem crash_nil (_v : Value) (A : Option Addr) (n c : Nat) (w : World) : Calls Tryz.prog 22 #[.pointer none, .slice A n c] w fun e w' => e = .returned (.tuple #[]) ∧ Below w.heap.size w w' := by
  go_enter Tryz.func22, Tryz.ntmps22
  go_wp2
  first
    | (go_end0; exact ⟨rfl, (Below.refl _ _).alloc (Nat.le_refl _) _⟩)
    | (refine bodyPost_ret (results_none rfl _ _ _) rfl ?_; exact ⟨rfl, (Below.refl _ _).alloc (Nat.le_refl _) _⟩)
set_option maxRecDepth 100000 in
set_option maxHeartbeats 2000000 in
theorem crash_any {L : Lay} {q : Q} {w : World} (H : QD L q w) {N : Nat} (hS : Small N q) (hN : N ≤ 1048576) (ks : List Int) (A : Option Addr) (c : Nat) (hA : RI w A ks) (hR : Range ks) (hkl : ks.length ≤ 1048576) (hc : ks.length ≤ c) (hAF : 0 < ks.length → ∀ x, aBlock A = some x → ¬ foot L q x) :
    Calls Tryz.prog 22 #[ptr L.d, .slice A ks.length c] w fun e w' => e = .returned (.tuple #[]) ∧ ∃ L', Step L q w L' (crashQ q ks) w' := by
  obtain ⟨n, hn⟩ : ∃ n, ks.length = n := ⟨_, rfl⟩
  obtain ⟨w1, hw1⟩ : ∃ W, w.alloc (.cells #[.slice A n c] 29) = W := ⟨_, rfl⟩
  have hb1 : Below w.heap.size w w1 := by rw [← hw1]; exact (Below.refl _ _).alloc (Nat.le_refl _) _
  have hz1 : w1.heap.size = w.heap.size + 1 := by rw [← hw1]; simp
  have hB1 : Box w.heap.size ks w1 (SideP L q w) := by
    refine ⟨A, c, ?_, ?_, ?_, hc⟩
    · rw [hn, ← hw1]; exact Blk.new _ _
    · exact hA.off (Off.of_below hb1) (fun _ _ _ h => h)
    · intro hz x hx
      obtain ⟨b, off, he, hbl, _⟩ := hA hz
      subst he
      have : x = b := by simpa [aBlock] using hx.symm
      subst this
      exact ⟨⟨hbl, hAF hz x hx⟩, by omega⟩
  have H1 : QD L q w1 := H.below hb1
  have hkb : ¬ foot L q w.heap.size := fun h => by have := H.foot_lt h; omega
  have HH1 := Lib.hid H1
  have HB1 := Lib.hid hB1
  have HKB := Lib.hid hkb
  have HS := Lib.hid hS
  have HR := Lib.hid hR
  have HBW := Lib.hid hb1
  have HW1 := Lib.hid hw1
  have HZ1 := Lib.hid hz1
  have HH := Lib.hid H
  have HKN := Lib.hid hkl
  have HSL := Lib.hid (sortedL H1 (Nat.le_trans hS.nl hN))
  have HLL := Lib.hid (looseS_len q)
  have hn1 : (looseS q).length ≤ 1048576 := by rw [looseS_len]; exact Nat.le_trans hS.nl hN
  obtain ⟨n1, hnn1⟩ : ∃ m, (looseS q).length = m := ⟨_, rfl⟩
  have HN1 := Lib.hid hnn1
  rw [hnn1] at HSL hn1
  rw [hn]
  obtain ⟨kb, hkbe⟩ : ∃ b, w.heap.size = b := ⟨_, rfl⟩
  have HKBE := Lib.hid hkbe
  have c4 : ∀ o, (w.alloc o).cell? ⟨L.d, 4, none⟩ = some (.map (some L.ml)) := fun o => (H.disk.grown (grown_alloc w o none) (by simp)).cell 4
  clear hA hB1 H1 hkb hS hR hb1 hw1 hz1 H hkl hAF hn hnn1 hkbe hc
  unfold ptr
  go_enter Tryz.func22, Tryz.ntmps22
  go_wp2_with (first
    | (go_at_call 53; rw [HW1.out]; (with_reducible refine (keysI_any (some L.ml) w1).mono ?_); rintro e w' ⟨rfl, rfl⟩; clear c4)
    | (go_at_call 52; (with_reducible refine HSL.out.mono ?_); rintro e w2 ⟨A1, c1, rfl, hRI, hA1, hb2⟩))
  have hcc := HH1.out.below hb2
  have HH2 := Lib.hid hcc
  have HRI := Lib.hid hRI
  have HA1 := Lib.hid hA1
  have HB2 := Lib.hid hb2
  have hk2 : w.heap.size < w2.heap.size := by have := hb2.size; have := HZ1.out; omega
  have hf2 : ∀ b, foot L q b → b < w.heap.size := fun b h => HH.out.foot_lt h
  have HF2 := Lib.hid hf2
  have hbx : Box w.heap.size ks w2 (SideP L q w) := HB1.out.off (Off.of_below hb2) (fun h => h) (fun _ _ h => h)
  have hrel0 : RelA L q ks w2 w.heap.size (SideP L q w) L (stayAll q ks (looseS q) 0) w2 := ⟨StepX.refl hcc, hbx⟩
  have HREL0 := Lib.hid hrel0
  clear hcc hRI hA1 hb2 hf2 hbx hrel0
  rw [HKBE.out] at HREL0 HKB hk2 ⊢
  go_loopw [21] (fun i wr => ∃ k L', k ≤ n1 ∧ i = .int .i64 k ∧ Hid (RelA L q ks w2 kb (SideP L q w) L' (stayAll q ks (looseS q) k) wr)) (fun i _ => n1 - (RowKit.intOf i).toNat)
  case atStart => exact ⟨0, L, Nat.zero_le _, rfl, HREL0⟩
  case round =>
    obtain ⟨k, L', hk, rfl, hI⟩ := hrel
    clear HREL0
    by_cases hlt : k < n1
    · have hks : k < (looseS q).length := by rw [HN1.out]; exact hlt
      have hinv := stayAll_inv HS.out ks (looseS q) k (by omega)
      obtain ⟨num, hnum⟩ : ∃ m, (looseS q)[k] = m := ⟨_, rfl⟩
      have hmem : num ∈ q.loose.map (·.1) := by rw [← hnum]; exact looseS_mem (List.getElem_mem hks)
      have hnl : num < q.bodies.length := by obtain ⟨x, hx, rfl⟩ := List.mem_map.1 hmem; exact HS.out.kl x hx
      have hsucc : stayAll q ks (looseS q) (k + 1) = stay1Q (stayAll q ks (looseS q) k) num := by rw [stayAll_succ _ _ _ _ hks, hnum]
      obtain ⟨b1, o1, hA1e, hb1l, hcs⟩ := HRI.out (by rw [List.length_map]; omega)
      have hc1 := hcs k (by rw [List.length_map]; exact hks)
      rw [List.getElem_map, hnum] at hc1
      obtain ⟨hst, hbx⟩ := hI.out
      have hb1f : ¬ (foot L q b1 ∨ b1 = kb) := fun h => by
        have h1 := HA1.out b1 (by rw [hA1e]; rfl)
        have := HZ1.out
        have := HKBE.out
        rcases h with h | h
        · have := HF2.out b1 h; omega
        · omega
      have d1 : wr.cell? ⟨b1, o1 + k, none⟩ = some (.int .i64 (num : Int)) := hst.off.cell hc1 hb1f
      obtain ⟨s, hs⟩ : ∃ s, stayAll q ks (looseS q) k = s := ⟨_, rfl⟩
      rw [hs] at hinv hst hbx hsucc
      have hnl' : num < s.1.bodies.length := by rw [hinv.len]; exact hnl
      have c4 : wr.cell? ⟨L.d, 4, none⟩ = some (.map (some L'.ml)) := by rw [← hst.d]; exact hst.tq.c4
      have hml : MapIs Tryz.prog 3 L'.ml (entL L' s.1.loose) wr := hst.tq.loose
      have hlk : (lookE (entL L' s.1.loose) (.int .i64 (num : Int))).getD (.pointer none) = .pointer (some ⟨L'.bl num, 0, none⟩) := by
        rw [look_entL L' s.1.loose num (by rw [hinv.loose]; exact hmem)]; rfl
      have hn20 : num ≤ 1048576 := by have := HS.out.nb; omega
      have hkbf : ¬ foot L' s.1 kb := not_foot hst (by omega) HKB.out
      have hPf : ∀ x, SideP L q w x → ¬ foot L' s.1 x := fun x hx => not_foot hst (by have := hx.1; have := HKBE.out; omega) hx.2
      -- the numbers of the body
      have hbn := hinv.small.body num
      obtain ⟨nw, hnw⟩ : ∃ m, (qbody s.1 num).now.length = m := ⟨_, rfl⟩
      obtain ⟨kp, hkp⟩ : ∃ m, (qbody s.1 num).kept = m := ⟨_, rfl⟩
      rw [hnw, hkp] at hbn
      obtain ⟨mo, hmo⟩ : ∃ m, nw - kp = m := ⟨_, rfl⟩
      have hmoI : IntKind.i64.wrap ((nw : Int) - (kp : Int)) = (mo : Int) := by rw [IntWalk.i64_in _ (by omega)]; omega
      have hmo20 : mo ≤ 1048576 := by omega
      have hsize : ∀ V, QD L' s.1 V → Calls Tryz.prog 37 #[.pointer (some ⟨L'.bl num, 0, none⟩)] V fun e w' => e = .returned (.int .i64 (nw : Int)) ∧ V = w' := fun V h => by
        have := size_any h (some num) (fun j hj => by cases hj; exact hnl')
        rw [show sizeO s.1 (some num) = nw from hnw] at this
        exact this
      have hHd : QD L' s.1 wr.drew := hst.tq.drew
      have hBd : Box kb s.2 wr.drew (SideP L q w) := hbx.off ((Off.refl (fun _ => False) wr).drew) (fun h => h) (fun _ _ h => h)
      have hksub : Range s.2 := fun z hz => HR.out z (hinv.sub z hz)
      have hkl2 : s.2.length ≤ 1048576 := Nat.le_trans hinv.kl HKN.out
      have hnext := next_any kb s.2 wr.drew (SideP L q w) hBd hksub mo hmo20 hkl2
      have hstay := fun v5 h5 ho => stay_step hinv.small hN hksub hkl2 hHd hBd hkbf hPf num hnl' v5 h5 ho
      rw [hnw, hkp, hmo] at hstay
      have hkc : wr.drew.cell? ⟨L'.bl num, 2, none⟩ = some (.int .i64 (kp : Int)) := by rw [← hkp]; exact hHd.b2 hnl'
      subst hA1e
      have HD := Lib.hid hst
      have HSU := Lib.hid hsucc
      have HST := Lib.hid hstay
      have HNX := Lib.hid hnext
      have HSZ := Lib.hid (hsize _ hHd)
      have HMO := Lib.hid hmoI
      have HS0 := Lib.hid hs
      clear hst hbx hsucc hstay hnext hsize hHd hBd hinv hcs hc1 hb1f hnum hmem hnl hnl' hkbf hPf hbn hnw hkp hmo hmoI hksub hkl2 hks hs hI
      obtain ⟨V, hV⟩ : ∃ V, wr.drew = V := ⟨_, rfl⟩
      have HV := Lib.hid hV
      go_wp2_with (at_lookup; refine wpList_lookup_map _ rfl _ _ 56 rfl 3 70 KI Tryz.underlying56 (.pointer none) (zeroPB _) L'.ml _ rfl hml _ _ rfl (key_nat num hn20) (.pointer (some ⟨L'.bl num, 0, none⟩)) hlk ?_)
      clear c4 d1 hlk hml
      refine wp_region_held_drew (S := fun _ => True) (by kernel_rfl) trivial (fun _ => ?_)
      rw [hV]
      rw [hV] at HST HNX HSZ hkc
      clear hV
      refine wpAnyH_take (i := 0) (v := ?v0) rfl (by kernel_rfl) (by kernel_rfl) (by kernel_rfl) (fun _ _ _ h => h) (Or.inl ⟨by rfl, ?y0⟩) trivial ?r0
      case y0 => (intro W hSw; (try dsimp only at hSw); go_simp <;> with_reducible rfl)
      change wpAnyH _ _ _ _ _ _ _ (Act.put _ (some 31) _) _
      simp only [Act.put, List.setIfInBounds_toArray, List.set_cons_zero, List.set_cons_succ]
      refine wpAnyH_take (i := 1) (v := ?v1) rfl (by kernel_rfl) (by kernel_rfl) (by kernel_rfl) (fun _ _ _ h => h) (Or.inl ⟨by rfl, ?y1⟩) trivial ?r1
      case y1 => (intro W hSw; (try dsimp only at hSw); go_simp <;> with_reducible rfl)
      change wpAnyH _ _ _ _ _ _ _ (Act.put _ (some 32) _) _
      simp only [Act.put, List.setIfInBounds_toArray, List.set_cons_zero, List.set_cons_succ]
      refine wpAnyH_take (i := 2) (v := ?v2) rfl (by kernel_rfl) (by kernel_rfl) (by kernel_rfl) (fun _ _ _ h => h) (Or.inl ⟨by rfl, ?y2⟩) trivial ?r2
      case y2 => (intro W hSw; (try dsimp only at hSw); go_simp <;> with_reducible rfl)
      change wpAnyH _ _ _ _ _ _ _ (Act.put _ (some 33) _) _
      simp only [Act.put, List.setIfInBounds_toArray, List.set_cons_zero, List.set_cons_succ]
      refine wpAnyH_take (i := 4) (v := ?v4) rfl (by kernel_rfl) (by kernel_rfl) (by kernel_rfl) (fun _ _ _ h => h) (Or.inl ⟨by rfl, ?y4⟩) trivial ?r4
      case y4 => (intro W hSw; (try dsimp only at hSw); go_simp <;> with_reducible rfl)
      change wpAnyH _ _ _ _ _ _ _ (Act.put _ (some 35) _) _
      simp only [Act.put, List.setIfInBounds_toArray, List.set_cons_zero, List.set_cons_succ]
      refine wpAnyH_take (i := 5) (v := ?v5) rfl (by kernel_rfl) (by kernel_rfl) (by kernel_rfl) (fun _ _ _ h => h) (Or.inl ⟨by rfl, ?y5⟩) trivial ?r5
      case y5 => (intro W hSw; (try dsimp only at hSw); go_simp <;> with_reducible rfl)
      change wpAnyH _ _ _ _ _ _ _ (Act.put _ (some 36) _) _
      simp only [Act.put, List.setIfInBounds_toArray, List.set_cons_zero, List.set_cons_succ]
      refine wpAnyH_take (i := 6) (v := ?v6) rfl (by kernel_rfl) (by kernel_rfl) (by kernel_rfl) (fun _ _ _ h => h) (Or.inl ⟨by rfl, ?y6⟩) trivial ?r6
      case y6 => (intro W hSw; (try dsimp only at hSw); go_simp <;> with_reducible rfl)
      change wpAnyH _ _ _ _ _ _ _ (Act.put _ (some 37) _) _
      simp only [Act.put, List.setIfInBounds_toArray, List.set_cons_zero, List.set_cons_succ]
      refine wpAnyH_ready (rs := [3, 7]) (by kernel_rfl) (by simp) ?_
      refine AllReadyH.cons rfl (fun K hK => ?_) (AllReadyH.cons rfl (fun K hK => ?_) AllReadyH.nil)
      · go_simp
        (with_reducible refine HSZ.out.mono ?_)
        rintro e wv ⟨rfl, rfl⟩
        refine hK.out _ _ trivial (fun _ => ?_)
        clear hK K
        refine wpAnyH_ready (rs := [7]) (by kernel_rfl) (by simp) ?_
        refine AllReadyH.cons rfl (fun K hK => ?_) AllReadyH.nil
        go_simp
        refine hK.out _ _ trivial (fun _ => ?_)
        clear hK K
        have hmoI := HMO.out
        refine wpAnyH_ready (rs := [8]) (by kernel_rfl) (by simp) ?_
        refine AllReadyH.cons rfl (fun K hK => ?_) AllReadyH.nil
        go_simp
        refine hK.out _ _ trivial (fun _ => ?_)
        clear hK K hmoI
        refine wpAnyH_ready (rs := [9]) (by kernel_rfl) (by simp) ?_
        refine AllReadyH.cons rfl (fun K hK => ?_) AllReadyH.nil
        go_simp
        refine HNX.out.mono ?_
        rintro e w5 ⟨rfl, hb5, ho5⟩
        refine hK.out _ _ trivial (fun _ => ?_)
        clear hK K
        refine wpAnyH_ready (rs := [10]) (by kernel_rfl) (by simp) ?_
        refine AllReadyH.cons rfl (fun K hK => ?_) AllReadyH.nil
        go_simp
        refine (HST.out w5 hb5 ho5).mono ?_
        rintro e w6 ⟨rfl, L6, st6, bx6⟩
        refine hK.out _ _ trivial (fun _ => ?_)
        clear hK K
        refine wpAnyH_done (by kernel_rfl) ?_ _
        go_wp2
        go_roundw
        case rel =>
          refine ⟨k + 1, L6, by omega, by go_num, Lib.hid ?_⟩
          have hd : StepX (fun b => b = kb) L q w2 L' s.1 V := by
            rw [← HV.out]
            exact ⟨HD.out.d, HD.out.tq.drew, HD.out.off.drew, HD.out.own⟩
          rw [HSU.out]
          exact ⟨hd.trans st6, bx6⟩
        case measure => simp [RowKit.intOf]; omega
      · go_simp
        refine hK.out _ _ trivial (fun _ => ?_)
        clear hK K
        refine wpAnyH_ready (rs := [3]) (by kernel_rfl) (by simp) ?_
        refine AllReadyH.cons rfl (fun K hK => ?_) AllReadyH.nil
        go_simp
        (with_reducible refine HSZ.out.mono ?_)
        rintro e wv ⟨rfl, rfl⟩
        refine hK.out _ _ trivial (fun _ => ?_)
        clear hK K
        have hmoI := HMO.out
        refine wpAnyH_ready (rs := [8]) (by kernel_rfl) (by simp) ?_
        refine AllReadyH.cons rfl (fun K hK => ?_) AllReadyH.nil
        go_simp
        refine hK.out _ _ trivial (fun _ => ?_)
        clear hK K hmoI
        refine wpAnyH_ready (rs := [9]) (by kernel_rfl) (by simp) ?_
        refine AllReadyH.cons rfl (fun K hK => ?_) AllReadyH.nil
        go_simp
        refine HNX.out.mono ?_
        rintro e w5 ⟨rfl, hb5, ho5⟩
        refine hK.out _ _ trivial (fun _ => ?_)
        clear hK K
        refine wpAnyH_ready (rs := [10]) (by kernel_rfl) (by simp) ?_
        refine AllReadyH.cons rfl (fun K hK => ?_) AllReadyH.nil
        go_simp
        refine (HST.out w5 hb5 ho5).mono ?_
        rintro e w6 ⟨rfl, L6, st6, bx6⟩
        refine hK.out _ _ trivial (fun _ => ?_)
        clear hK K
        refine wpAnyH_done (by kernel_rfl) ?_ _
        go_wp2
        go_roundw
        case rel =>
          refine ⟨k + 1, L6, by omega, by go_num, Lib.hid ?_⟩
          have hd : StepX (fun b => b = kb) L q w2 L' s.1 V := by
            rw [← HV.out]
            exact ⟨HD.out.d, HD.out.tq.drew, HD.out.off.drew, HD.out.own⟩
          rw [HSU.out]
          exact ⟨hd.trans st6, bx6⟩
        case measure => simp [RowKit.intOf]; omega
    · obtain rfl : k = n1 := by omega
      obtain ⟨hst, hbx⟩ := hI.out
      have hinv := stayAll_inv HS.out ks (looseS q) k (Nat.le_of_eq HN1.out.symm)
      have hCA : crashA q ks = stayAll q ks (looseS q) k := by rw [crashA_eq, HN1.out]
      obtain ⟨s, hs⟩ : ∃ s, stayAll q ks (looseS q) k = s := ⟨_, rfl⟩
      rw [hs] at hst hbx hinv hCA
      have hS1 : Small N { s.1 with loose := [] } := by
        have h := hinv.small
        exact ⟨h.nb, h.nn, h.nk, h.nc, Nat.zero_le _, h.now, h.kn, h.kk, h.kc, (fun x hx => by cases hx), h.r0, h.r1, h.a0, h.a1, h.dn, h.dk, h.dc, List.nodup_nil⟩
      have c4 : wr.cell? ⟨L.d, 4, none⟩ = some (.map (some L'.ml)) := by rw [← hst.d]; exact hst.tq.c4
      have c3 : wr.cell? ⟨L.d, 3, none⟩ = some (.map (some L'.mc)) := by rw [← hst.d]; exact hst.tq.c3
      have hml : MapIs Tryz.prog 3 L'.ml (entL L' s.1.loose) wr := hst.tq.loose
      have hn2 : (dirsS s.1).length ≤ 1048576 := by rw [dirsS_len]; exact Nat.le_trans hinv.small.nc hN
      obtain ⟨n2, hnn2⟩ : ∃ m, (dirsS s.1).length = m := ⟨_, rfl⟩
      have HN2 := Lib.hid hnn2
      rw [hnn2] at hn2
      have HST := Lib.hid hst
      have HBX := Lib.hid hbx
      have HINV := Lib.hid hinv
      have HCA := Lib.hid hCA
      have HS1 := Lib.hid hS1
      clear hst hbx hinv hCA hS1 hs hI hnn2
      have HN2X : Hid ((dirsS { s.1 with loose := [] }).length = n2) := Lib.hid HN2.out
      have mtok : True := trivial
      go_wp2_with (first
        | (refine wpList_clear_map _ rfl _ 56 rfl 3 70 Tryz.underlying56 L'.ml _ rfl hml ?_; intro w7 hm7 hg7; have H7 := HST.out.tq.setL hg7 [] hm7; have hd7 := HST.out.d; clear c4 c3; have c3' : w7.cell? ⟨L.d, 3, none⟩ = some (.map (some L'.mc)) := (by rw [← hd7]; exact H7.c3))
        | (go_at_call 56; (with_reducible refine (keysS_any (some L'.mc) _).mono ?_); rintro e w' ⟨rfl, rfl⟩; clear c3')
        | (go_at_call 55; (with_reducible refine (sortedC_at H7 (Nat.le_trans HS1.out.nc hN) n2 HN2X.out).mono ?_); rintro e w8 ⟨A2, c2, rfl, hRT, hA2, hb8⟩))
      obtain ⟨q2, hq2⟩ : ∃ x, ({ s.1 with loose := [] } : Q) = x := ⟨_, rfl⟩
      have st7 : StepX (fun b => b = kb) L q w2 L' { s.1 with loose := [] } w7 := HST.out.trans (StepX.of ⟨rfl, H7, (Off.of_grown hg7).mono (fun x h => .inr (.inr (.inr (.inr (.inl (Option.some.inj h).symm))))), fun b hb => .inl hb⟩)
      have st8 : StepX (fun b => b = kb) L q w2 L' { s.1 with loose := [] } w8 := st7.trans (StepX.below H7 hb8)
      have hml7 : kindAt wr L'.ml = some none := HST.out.tq.loose.kind
      have hkbml : L'.ml ≠ kb := fun e => not_foot HST.out (by omega) HKB.out (.inr (.inr (.inr (.inr (.inl e.symm)))))
      have hbx8 : Box kb s.2 w8 (SideP L q w) := by
        have h7 : Box kb s.2 w7 (SideP L q w) := HBX.out.off (Off.of_grown hg7) (fun e => hkbml (Option.some.inj e)) (fun x hx e => not_foot HST.out (by have := hx.1; have := HKBE.out; omega) hx.2 (.inr (.inr (.inr (.inr (.inl (Option.some.inj e).symm))))))
        exact h7.off (Off.of_below hb8) (fun h => h) (fun _ _ h => h)
      have hRT2 : RT w8 A2 (dirsS q2) := by rw [← hq2]; exact hRT
      have hn2' : (dirsS q2).length = n2 := by rw [← hq2]; exact HN2.out
      have hA2f : ∀ b, aBlock A2 = some b → b < w8.heap.size ∧ w7.heap.size ≤ b := fun b hb => ⟨(hA2 b hb).2, (hA2 b hb).1⟩
      rw [hq2] at st8 HS1
      have hf7 : ∀ b, foot L' q2 b → b < w7.heap.size := fun b h => by rw [← hq2] at h; exact H7.foot_lt h
      have HF7 := Lib.hid hf7
      have HST8 := Lib.hid st8
      have HRT2 := Lib.hid hRT2
      have HN2' := Lib.hid hn2'
      have HA2F := Lib.hid hA2f
      have HQ2 := Lib.hid hq2
      have hkb7 : kb < w7.heap.size := Nat.lt_of_lt_of_le hk2 st7.off.size
      have hrel8 : RelA L' q2 s.2 w8 kb (SideP L q w) L' (dirAll (q2, s.2) (dirsS q2) 0) w8 := ⟨StepX.refl st8.tq, hbx8⟩
      have HREL8 := Lib.hid hrel8
      have hsub := HINV.out.sub
      have HSUB := Lib.hid hsub
      have HKL2 := Lib.hid HINV.out.kl
      have hkb8 : ¬ foot L' q2 kb := not_foot st8 (by omega) HKB.out
      have HKB8 := Lib.hid hkb8
      have hP8 : ∀ x, SideP L q w x → ¬ foot L' q2 x ∧ x < w8.heap.size := fun x hx => ⟨not_foot st8 (by have := hx.1; have := HKBE.out; omega) hx.2, by have := hx.1; have := HKBE.out; have := hb8.size; omega⟩
      have HP8 := Lib.hid hP8
      have hk8 : kb < w8.heap.size := Nat.lt_of_lt_of_le hkb7 hb8.size
      clear st7 st8 hml7 hkbml hbx8 hRT2 hn2' hA2f hf7 hRT hA2 hb8 hg7 hm7 H7 hd7 hml hrel8 hsub hkb8 hP8 hq2
      go_loopw [54] (fun i wr => ∃ k L2, k ≤ n2 ∧ i = .int .i64 k ∧ Hid (RelA L' q2 s.2 w8 kb (SideP L q w) L2 (dirAll (q2, s.2) (dirsS q2) k) wr)) (fun i _ => n2 - (RowKit.intOf i).toNat)
      case atStart => exact ⟨0, L', Nat.zero_le _, rfl, HREL8⟩
      case round =>
        obtain ⟨k2, L2, hk2', rfl, hI2⟩ := hrel
        clear HREL8
        by_cases hlt2 : k2 < n2
        · have hds : k2 < (dirsS q2).length := by rw [HN2'.out]; exact hlt2
          have hinv := dirAll_inv HS1.out s.2 (dirsS q2) k2 (by omega)
          have hsucc : dirAll (q2, s.2) (dirsS q2) (k2 + 1) = keepDir1Q (dirAll (q2, s.2) (dirsS q2) k2) (dirsS q2)[k2] := dirAll_succ _ _ _ hds
          obtain ⟨hM, hM2, hdl⟩ := dir_bound HS1.out hN k2 hds
          obtain ⟨b2, o2, hA2e, hb2l, hcs⟩ := HRT2.out (by omega)
          have hc1 := hcs k2 hds
          obtain ⟨dd, hdd⟩ : ∃ m, (dirsS q2)[k2] = m := ⟨_, rfl⟩
          rw [hdd] at hsucc hM hM2 hdl hc1
          obtain ⟨s2, hs2⟩ : ∃ x, dirAll (q2, s.2) (dirsS q2) k2 = x := ⟨_, rfl⟩
          rw [hs2] at hinv hsucc
          have hI := hI2.out
          rw [hs2] at hI
          obtain ⟨hst, hbx⟩ := hI
          have hb2f : ¬ (foot L' q2 b2 ∨ b2 = kb) := fun h => by
            have h1 := HA2F.out b2 (by rw [hA2e]; rfl)
            rcases h with h | h
            · have := HF7.out b2 h; omega
            · omega
          have d1 : wr.cell? ⟨b2, o2 + k2, none⟩ = some (.string (bs dd)) := hst.off.cell hc1 hb2f
          have hLd : L2.d = L.d := by rw [hst.d, HST8.out.d]
          have c3 : wr.cell? ⟨L.d, 3, none⟩ = some (.map (some L2.mc)) := by rw [← hLd]; exact hst.tq.c3
          have hm : MapIs Tryz.prog 9 L2.mc (entC L2 s2.1.changes) wr := hst.tq.changes
          obtain ⟨A3, c3v, hv, hRC, hnc⟩ := rc_of_row (hst.tq.chRow dd)
          have hcs2 : chL s2.1 dd = chL q2 dd := by unfold chL; rw [hinv.changes]
          obtain ⟨n3, hn3⟩ : ∃ n, (chL s2.1 dd).length = n := ⟨_, rfl⟩
          have hn3l : n3 ≤ 1048576 := by rw [← hn3, hcs2]; exact hM2
          rw [hn3] at hv hnc
          have hkbf : ¬ foot L2 s2.1 kb := not_foot hst hk8 HKB8.out
          have hPf : ∀ x, SideP L q w x → ¬ foot L2 s2.1 x := fun x hx => not_foot hst (HP8.out x hx).2 (HP8.out x hx).1
          have hksub : Range s2.2 := fun z hz => HR.out z (HSUB.out z (hinv.sub z hz))
          have hkl2 : s2.2.length ≤ 1048576 := Nat.le_trans hinv.kl (Nat.le_trans HKL2.out HKN.out)
          have hnext := next_any kb s2.2 wr (SideP L q w) hbx hksub n3 hn3l hkl2
          have hkeep := fun v5 h5 ho => keep_step hinv HS1.out dd hM (D := L.d) hLd hst.tq hkbf hPf A3 n3 c3v hv hn3 v5 h5 ho
          have hm3 := next_le s2.2 n3
          obtain ⟨m3, hm3e⟩ : ∃ m, (nextQ s2.2 n3).1 = m := ⟨_, rfl⟩
          rw [hm3e] at hnext hkeep hm3
          have hsl : ∀ U, (Instr.slice 87 (.slice A3 n3 c3v) none (some (.int .i64 (m3 : Int))) none).run Tryz.prog U = .ok (.slice (cutZ A3 c3v 0 3) m3 c3v) U := fun U => cut_ch A3 n3 c3v m3 (by omega) U
          have hlk : (lookE (entC L2 s2.1.changes) (.string dd)).getD (.slice none 0 0) = .slice A3 n3 c3v := hv
          have hkey := key_bs dd (by omega)
          obtain ⟨B, hB⟩ : ∃ F, bs dd = F := ⟨_, rfl⟩
          rw [hB] at d1 hkey
          have HKEY := Lib.hid hkey
          have HLK := Lib.hid hlk
          have HKEEP := Lib.hid hkeep
          have HNX := Lib.hid hnext
          have HSU := Lib.hid hsucc
          have HST := Lib.hid hst
          have HM := Lib.hid hm
          subst hA2e
          clear hds hinv hsucc hM hM2 hdl hb2l hcs hc1 hdd hs2 hst hbx hb2f hLd hm hv hRC hnc hcs2 hn3 hkbf hPf hksub hkl2 hnext hkeep hm3 hm3e hlk hkey hB
          go_wp2_with (first
            | (at_lookup; refine wpList_lookup_map _ rfl _ _ 55 rfl 9 87 KS Tryz.underlying55 (.slice none 0 0) (zeroS _) L2.mc _ rfl HM.out _ _ rfl HKEY.out (.slice A3 n3 c3v) HLK.out ?_)
            | ((with_reducible refine HNX.out.mono ?_); rintro e w5 ⟨rfl, hb5, ho5⟩; clear c3 d1)
            | (go_at_call 48; (with_reducible refine (HKEEP.out w5 hb5 ho5).mono ?_); rintro e w6 ⟨rfl, L6, st6, bx6⟩))
          go_roundw
          case rel =>
            refine ⟨k2 + 1, L6, by omega, by go_num, Lib.hid ?_⟩
            rw [HSU.out]
            exact ⟨HST.out.trans st6, bx6⟩
          case measure => simp [RowKit.intOf]; omega
        · obtain rfl : k2 = n2 := by omega
          have hinv := dirAll_inv HS1.out s.2 (dirsS q2) k2 (by rw [HN2'.out]; exact Nat.le_refl _)
          have hd2 : dirsS s.1 = dirsS q2 := by rw [← HQ2.out]; rfl
          have hCB : crashB (crashA q ks) = dirAll (q2, s.2) (dirsS q2) k2 := by rw [HCA.out, crashB_eq, HQ2.out, hd2, HN2'.out]
          obtain ⟨s2, hs2⟩ : ∃ x, dirAll (q2, s.2) (dirsS q2) k2 = x := ⟨_, rfl⟩
          have hI := hI2.out
          rw [hs2] at hI hinv hCB
          have hst := hI.1
          have hcr : crashQ q ks = { s2.1 with changes := [], names := s2.1.kept, told := false, ahead := 0, once := false } := by unfold crashQ; rw [hCB]
          have hLd : L2.d = L.d := by rw [hst.d, HST8.out.d]
          have c3 : wr.cell? ⟨L.d, 3, none⟩ = some (.map (some L2.mc)) := by rw [← hLd]; exact hst.tq.c3
          have HST := Lib.hid hst
          have HLD := Lib.hid hLd
          have HCR := Lib.hid hcr
          clear hinv hCB hI hst hcr hLd hd2 hs2
          go_wp2_with (first
            | (refine wpList_clear_map _ rfl _ 55 rfl 9 87 Tryz.underlying55 L2.mc _ rfl HST.out.tq.changes ?_; intro w9 hm9 hg9; have H9 := HST.out.tq.clearC hg9 hm9; clear c3; have c2' : w9.cell? ⟨L.d, 2, none⟩ = some (.map (some L2.mq)) := (by rw [← HLD.out]; exact H9.c2))
            | (go_at_call 57; (with_reducible refine (cloneM_any L2.mq _ w9 H9.kept).mono ?_); rintro e w10 ⟨rfl, hmC, hbC⟩; clear c2'; have fz : ∀ j, w10.frozen? ⟨L.d, j, none⟩ = false := (by rw [← HLD.out]; exact (H9.below hbC).free); have e1 : w10.cell? ⟨L.d, 1, none⟩ = some (.map (some L2.mn)) := (by rw [← HLD.out]; exact (H9.below hbC).c1); have e6 := (H9.below hbC).c6; have e7 := (H9.below hbC).c7; have e8 := (H9.below hbC).c8; rw [HLD.out] at e6 e7 e8))
          go_end0
          have hdk := (H9.below hbC).disk
          rw [HLD.out] at hdk
          have hd := (((hdk.set 1 (.map (some w9.heap.size))).set 6 (.bool false)).set 7 (.int .i64 0)).set 8 (.bool false)
          have g1 := grown_set w10 L.d 1 (.map (some w9.heap.size))
          have g2 := g1.trans (grown_set (w10.setCell ⟨L.d, 1, none⟩ (.map (some w9.heap.size))) L.d 6 (.bool false))
          have g3 := g2.trans (grown_set ((w10.setCell ⟨L.d, 1, none⟩ (.map (some w9.heap.size))).setCell ⟨L.d, 6, none⟩ (.bool false)) L.d 7 (.int .i64 0))
          have g4 := g3.trans (grown_set (((w10.setCell ⟨L.d, 1, none⟩ (.map (some w9.heap.size))).setCell ⟨L.d, 6, none⟩ (.bool false)).setCell ⟨L.d, 7, none⟩ (.int .i64 0)) L.d 8 (.bool false))
          rw [← HLD.out] at hd g4 ⊢
          have stF := ((HST8.out.trans HST.out).trans (StepX.of (Step.clearC HST.out.tq hg9 hm9))).trans (StepX.of (Step.setMn H9 s2.1.kept w9.heap.size hbC hmC (Nat.le_refl _) g4 { s2.1 with changes := [], names := s2.1.kept, told := false, ahead := 0, once := false } rfl rfl rfl rfl rfl hd))
          have hb02 : Below w.heap.size w w2 := HBW.out.trans (HB2.out.mono HBW.out.size)
          refine ⟨rfl, { L2 with mn := w9.heap.size }, ?_⟩
          rw [HCR.out]
          exact ⟨stF.d, stF.tq, ((Off.of_below hb02).mono (fun _ h => h.elim)).trans stF.off (fun b hb => hb.elim .inl (fun h => .inr (by have := HKBE.out; omega))), fun b hb => (stF.own b hb).elim .inl (fun h => .inr (Nat.le_trans hb02.size h))⟩
end Go.Proofs.YtbodkjifpmencaaGreat
