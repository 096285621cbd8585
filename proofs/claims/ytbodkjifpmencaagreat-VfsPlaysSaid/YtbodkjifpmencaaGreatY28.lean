/-
  What the document's Crash rests on. No conditions.
-/
import Derived.Test.YtbodkjifpmencaaGreatY27
namespace Go.Proofs.YtbodkjifpmencaaGreat
open Go.RowKit
open Go.Lib

theorem rem_rem (x m : Int) (hm : 0 < m) : (x.tmod m + m).tmod m = x % m := by
  have h := emod_cases x m hm
  have h2 := Int.emod_nonneg x (b := m) (by omega)
  have h3 := Int.emod_lt_of_pos x hm
  split at h
  · rw [← h]
    rw [Int.tmod_eq_emod_of_nonneg h2]
    exact Int.emod_eq_of_lt h2 h3
  · rw [← h, Int.tmod_eq_emod_of_nonneg (by omega), Int.add_emod_right]
    exact Int.emod_eq_of_lt h2 h3
theorem rem_bd (x m : Int) (hm : 0 < m) : -m ≤ x.tmod m ∧ x.tmod m < m := by
  have h := emod_cases x m hm
  have h2 := Int.emod_nonneg x (b := m) (by omega)
  have h3 := Int.emod_lt_of_pos x hm
  split at h <;> omega
theorem next_in (ks : List Int) (u m : Nat) (h : u < ks.length) : ((nextQ (ks.drop u) m).1 : Int) = ks[u] % ((m : Int) + 1) := by
  rw [List.drop_eq_getElem_cons h]
  show (((ks[u] % ((m : Int) + 1)).toNat : Nat) : Int) = _
  have := Int.emod_nonneg ks[u] (b := (m : Int) + 1) (by omega)
  omega
theorem next_out (ks : List Int) (u m : Nat) (h : ks.length ≤ u) : (nextQ (ks.drop u) m).1 = 0 := by
  rw [List.drop_of_length_le h]
  rfl
theorem next_drop (ks : List Int) (u m : Nat) : (nextQ (ks.drop u) m).2 = ks.drop (u + 1) := by
  rw [next_tail, List.tail_drop]
theorem stayAllR_succ (r : R) (ks : List Int) (i : Nat) : stayAllR r ks (i + 1) = stay1R (stayAllR r ks i) i := by
  unfold stayAllR
  rw [List.range_succ, List.foldl_append]
  rfl
theorem stay1_len (s : R × List Int) (k : Nat) : (stay1R s k).1.bodies.length = s.1.bodies.length := by
  unfold stay1R
  split
  · rfl
  · show (s.1.bodies.set _ _).length = _
    rw [List.length_set]
theorem stayAll_len (r : R) (ks : List Int) : ∀ i, (stayAllR r ks i).1.bodies.length = r.bodies.length
  | 0 => rfl
  | i + 1 => by rw [stayAllR_succ, stay1_len, stayAll_len r ks i]
theorem stay1_rest (s : R × List Int) (k : Nat) : (stay1R s k).1.changes = s.1.changes ∧ (stay1R s k).1.kept = s.1.kept := by
  unfold stay1R
  split <;> exact ⟨rfl, rfl⟩
theorem stayAll_rest (r : R) (ks : List Int) : ∀ i, (stayAllR r ks i).1.changes = r.changes ∧ (stayAllR r ks i).1.kept = r.kept
  | 0 => ⟨rfl, rfl⟩
  | i + 1 => by
    rw [stayAllR_succ]
    have h := stay1_rest (stayAllR r ks i) i
    have h2 := stayAll_rest r ks i
    exact ⟨h.1.trans h2.1, h.2.trans h2.2⟩
/-- What a state of the disk has of one body, at the place where it lies. -/
theorem rs_at {T : Nat → Prop} {X : Nat} {r : R} {w W : World} (h : Rs T X r w W) {b nb cb : Nat} (hx : W.cell? ⟨X, 1, none⟩ = some (.slice (some ⟨b, 0, none⟩) nb cb)) {i : Nat} (hi : i < r.bodies.length) :
    W.cell? ⟨b, i * 2, none⟩ = some (.string (bs (rbody r i).now)) ∧ W.cell? ⟨b, i * 2 + 1, none⟩ = some (.string (bs (rbody r i).kept)) ∧ (∀ j, W.frozen? ⟨b, j, none⟩ = false) ∧ X < W.heap.size ∧ b < W.heap.size ∧
    (∀ y, Rs T X { r with bodies := r.bodies.set i ⟨(rbody r i).now, y⟩ } w (W.setCell ⟨b, i * 2 + 1, none⟩ (.string (bs y))) ∧ (W.setCell ⟨b, i * 2 + 1, none⟩ (.string (bs y))).cell? ⟨X, 1, none⟩ = some (.slice (some ⟨b, 0, none⟩) nb cb)) ∧
    (∀ y, Rs T X { r with bodies := r.bodies.set i ⟨y, (rbody r i).kept⟩ } w (W.setCell ⟨b, i * 2, none⟩ (.string (bs y)))) := by
  obtain ⟨⟨G, hG⟩, _⟩ := id h
  have hv : G.bv = .slice (some ⟨b, 0, none⟩) nb cb := by
    have := hG.disk.cell 1
    rw [hx] at this
    exact (Option.some.inj this).symm
  obtain ⟨Ab, c, e1, h2⟩ := hG.bodies
  rw [hv] at e1
  obtain ⟨rfl, hnb⟩ : (some ⟨b, 0, none⟩ : Option Addr) = Ab ∧ nb = r.bodies.length := by cases e1; exact ⟨rfl, rfl⟩
  obtain ⟨b', e, hlt, hc⟩ := h2 (by omega)
  obtain rfl : b = b' := by cases e; rfl
  obtain ⟨c0, c1⟩ := hc i hi
  rw [Nat.zero_add, rbody_at' hi] at c0 c1
  have hrow := hG.bods
  rw [hv] at hrow
  refine ⟨c0, c1, fun j => own_free hrow j, hG.disk.lt, hlt, fun y => ?_, fun y => ?_⟩
  · obtain ⟨hr, ho, ht⟩ := hG.storeKept hi hv hnb.symm y
    have h3 := Rs.call (F := fun x => x = b) h hr (fun x hx => by rw [hx]; exact ht) ho
    exact ⟨h3, (hr.disk.cell 1).trans (by show some G.bv = _; rw [hv])⟩
  · obtain ⟨hr, ho, ht⟩ := hG.storeNow hi hv hnb.symm y
    exact Rs.call (F := fun x => x = b) h hr (fun x hx => by rw [hx]; exact ht) ho
theorem rs_bodies {T : Nat → Prop} {X : Nat} {r : R} {w W : World} (h : Rs T X r w W) : ∃ A cb, W.cell? ⟨X, 1, none⟩ = some (.slice A r.bodies.length cb) ∧ (0 < r.bodies.length → ∃ b, A = some ⟨b, 0, none⟩) := by
  obtain ⟨⟨G, hG⟩, _⟩ := id h
  obtain ⟨Ab, c, e1, h2⟩ := hG.bodies
  refine ⟨Ab, c, (hG.disk.cell 1).trans (by show some G.bv = _; rw [e1]), fun h0 => ?_⟩
  obtain ⟨b, e, _⟩ := h2 h0
  exact ⟨b, e⟩
theorem rs_changes {T : Nat → Prop} {X : Nat} {r : R} {w W : World} (h : Rs T X r w W) : ∃ A c, W.cell? ⟨X, 4, none⟩ = some (.slice A r.changes.length c) ∧ W.frozen? ⟨X, 4, none⟩ = false ∧ X < W.heap.size ∧ (0 < r.changes.length → ∃ bc, A = some ⟨bc, 0, none⟩ ∧ bc < W.heap.size ∧ ∀ j (hj : j < r.changes.length), ∃ Aj cj, W.cell? ⟨bc, j * 2, none⟩ = some (.string (bs r.changes[j].1)) ∧ W.cell? ⟨bc, j * 2 + 1, none⟩ = some (.slice Aj r.changes[j].2.length cj) ∧ RCs W (More T w W) Aj r.changes[j].2) := by
  obtain ⟨⟨G, hG⟩, _⟩ := id h
  obtain ⟨A, c, hcv⟩ := own_len hG.chg
  refine ⟨A, c, (hG.disk.cell 4).trans (by show some G.cv = _; rw [hcv]), hG.disk.free 4, hG.disk.lt, fun h0 => ?_⟩
  obtain ⟨bc, _, _, hA, hbc, _⟩ := hG.changeAt h0 hcv
  refine ⟨bc, hA, (World.ownsRow.lt hG.chg bc hbc).2, fun j hj => ?_⟩
  obtain ⟨bc', Aj, cj, hA', _, c0, c1, hR⟩ := hG.changeAt hj hcv
  obtain rfl : bc = bc' := by rw [hA] at hA'; cases hA'; rfl
  exact ⟨Aj, cj, c0, c1, hR⟩
theorem RCs.below {T : Nat → Prop} {w w' : World} {A : Option Addr} {l : List (Bs × Option Nat)} (h : RCs w T A l) (hb : Below w.heap.size w w') : RCs w' T A l := h.off (Off.of_below hb) (fun _ _ _ h => h)
theorem ChsOk.below {T : Nat → Prop} {w w' : World} {chs : List Value} {l : List RCh} (h : ChsOk w T chs l) (hb : Below w.heap.size w w') : ChsOk w' T chs l := ⟨h.len, fun j hj => by
  obtain ⟨A, c, e, hR⟩ := h.each j hj
  exact ⟨A, c, e, hR.below hb⟩⟩
theorem ChsOk.mono {T T' : Nat → Prop} {w : World} {chs : List Value} {l : List RCh} (h : ChsOk w T chs l) (hT : ∀ b, T b → T' b) : ChsOk w T' chs l := ⟨h.len, fun j hj => by
  obtain ⟨A, c, e, hR⟩ := h.each j hj
  exact ⟨A, c, e, hR.mono hT⟩⟩
/-- The changes have been made anew, from a state of the disk on. -/
theorem rs_setChg {T : Nat → Prop} {X : Nat} {r : R} {w W1 wi : World} (h : Rs T X r w W1) (hb : Below W1.heap.size W1 wi) {v : Value} {l : List RCh} {chs : List Value} (hrow : wi.ownsRow W1.heap.size TCh 2 v l.length (cellsRC l chs)) (hC : ChsOk W1 (More T w W1) chs l) : Rs T X { r with changes := l } w (wi.setCell ⟨X, 4, none⟩ v) := by
  have h2 := h.below hb
  obtain ⟨⟨G, hG⟩, _⟩ := id h2
  obtain ⟨⟨G1, hG1⟩, _⟩ := id h
  have hX1 := hG1.disk.lt
  have hlt := fun b (hb : v.ownBlock = some b) => World.ownsRow.lt hrow b hb
  have hsz := h.2.size
  have o2 := off_set wi X 4 v
  have hs := o2.size
  exact Rs.call (F := fun b => b = X) h2 (hG.setChg o2 v chs l ((hC.below hb).mono (fun b h => h.mono hb.size)) (own_base0 (own_off hrow o2 (fun b hb => by show b ≠ X; have := hlt b hb; omega)) (Nat.zero_le _)) (fun b hb => by have := hlt b hb; exact .inr ⟨by omega, this.2⟩) (hG.disk.set 4 v)) (fun x hx => by rw [hx]; exact hG.tx) o2
theorem filt_take_succ (d : Bs) (l : List RCh) (k : Nat) (h : k < l.length) : (l.take (k + 1)).filter (fun c => !decide (c.1 = d)) = (l.take k).filter (fun c => !decide (c.1 = d)) ++ (if l[k].1 = d then [] else [l[k]]) := by
  rw [List.take_succ_eq_append_getElem h, List.filter_append]
  congr 1
  by_cases hp : l[k].1 = d <;> simp [hp]
theorem cnt_take_succ (d : Bs) (l : List RCh) (k : Nat) (h : k < l.length) : ((l.take (k + 1)).filter (fun c => decide (c.1 = d))).length = ((l.take k).filter (fun c => decide (c.1 = d))).length + (if l[k].1 = d then 1 else 0) := by
  rw [List.take_succ_eq_append_getElem h, List.filter_append, List.length_append]
  congr 1
  by_cases hp : l[k].1 = d <;> simp [hp]
theorem cnt_le (d : Bs) (l : List RCh) (k : Nat) : ((l.take k).filter (fun c => decide (c.1 = d))).length ≤ l.length := by
  refine Nat.le_trans (List.length_filter_le _ _) ?_
  rw [List.length_take]
  omega
theorem filt_le (d : Bs) (l : List RCh) (k : Nat) : ((l.take k).filter (fun c => !decide (c.1 = d))).length ≤ l.length := by
  refine Nat.le_trans (List.length_filter_le _ _) ?_
  rw [List.length_take]
  omega
theorem least_succ (l : List RCh) (m : Bs) (k : Nat) (h : k < l.length) : (l.take (k + 1)).foldl leastStep m = leastStep ((l.take k).foldl leastStep m) l[k] := foldl_take _ _ _ _ h
theorem head_least (l : List RCh) (h : 0 < l.length) : (l.headD ([], [])).1 = l[0].1 := by
  cases l with
  | nil => exact absurd h (by simp)
  | cons c cs => rfl
/-- What a turn leaves. -/
theorem keepDir1_eq (s : R × List Int) (d : Bs) (u : Nat) (ks : List Int) (h : s.2 = ks.drop u) : keepDir1R s d = ({ keepR s.1 d (nextQ (ks.drop u) (ndR s.1 d)).1 with changes := (keepR s.1 d (nextQ (ks.drop u) (ndR s.1 d)).1).changes.filter fun c => !decide (c.1 = d) }, ks.drop (u + 1)) := by
  unfold keepDir1R
  rw [h, next_drop]
  unfold keepR
  dsimp only
  rw [keepGo_ne]
theorem keepGo_len (d : Bs) : ∀ (cs : List RCh) (_ : ∀ c ∈ cs, c.2.length ≤ 2) (n : Nat) (l : Nm), (keepGo d cs n l).1.length ≤ l.length + 2 * (cs.filter fun c => decide (c.1 = d)).length
  | [], _, n, l => by simp [keepGo]
  | c :: cs, hc, n, l => by
    have h2 := hc c (by simp)
    have hcs : ∀ c ∈ cs, c.2.length ≤ 2 := fun x hx => hc x (by simp [hx])
    unfold keepGo
    split
    · dsimp only
      have := keepGo_len d cs hcs n l
      rw [List.filter_cons]
      split
      · rw [List.length_cons]; omega
      · exact this
    · rename_i h
      have hd : c.1 = d := Classical.byContradiction fun h' => h (.inl h')
      have := keepGo_len d cs hcs (n - 1) (c.2.foldl withR l)
      have h3 := foldW_len c.2 l
      rw [List.filter_cons_of_pos (by simpa using hd), List.length_cons]
      omega
theorem filt_add (d : Bs) : ∀ cs : List RCh, (cs.filter fun c => decide (c.1 = d)).length + (cs.filter fun c => !decide (c.1 = d)).length = cs.length
  | [] => rfl
  | c :: cs => by
    have := filt_add d cs
    by_cases h : c.1 = d
    · rw [List.filter_cons_of_pos (by simpa using h), List.filter_cons_of_neg (by simpa using h)]
      simp only [List.length_cons]
      omega
    · rw [List.filter_cons_of_neg (by simpa using h), List.filter_cons_of_pos (by simpa using h)]
      simp only [List.length_cons]
      omega
theorem dirAll_len (s : R × List Int) (hc : ∀ c ∈ s.1.changes, c.2.length ≤ 2) (l : List Bs) : ∀ k, k ≤ l.length → (dirAllR s l k).1.kept.length + 2 * (dirAllR s l k).1.changes.length ≤ s.1.kept.length + 2 * s.1.changes.length ∧ ∀ c ∈ (dirAllR s l k).1.changes, c.2.length ≤ 2
  | 0, _ => ⟨Nat.le_refl _, hc⟩
  | k + 1, h => by
    obtain ⟨h1, h2⟩ := dirAll_len s hc l k (by omega)
    rw [dirAllR_succ s l k (by omega)]
    generalize dirAllR s l k = t at h1 h2
    refine ⟨?_, fun c hc => h2 c (List.mem_filter.1 hc).1⟩
    have h3 := keepGo_len l[k] t.1.changes h2 (nextQ t.2 (ndR t.1 l[k])).1 t.1.kept
    have h4 := filt_add l[k] t.1.changes
    show (keepGo l[k] t.1.changes _ t.1.kept).1.length + 2 * (t.1.changes.filter fun c => !decide (c.1 = l[k])).length ≤ _
    omega
/-- Names are put behind none, anew. -/
theorem appNm {ops : Array Oper} {rest : List Oper} {o : Oper} {a : Act} {Q : Exit → Act → World → Prop} (hgd : o.guard = none) (s x : Operand)
    (ho : o.op = .call { callee := .builtin .append, args := #[s, x], argTypes := #[62, 62] }) (w : World) (l : Nm) (n c g : Nat) (A : Option Addr) (hg : w.heap.size = g) (hn : l.length = n) (hA : A = none → c = 0)
    (hs : a.eval s = .slice (some ⟨g, 0, none⟩) 0 0) (hx : a.eval x = .slice A n c) (hr : RN w A l) (hlen : n ≤ 10000000)
    (h : ∀ v w', OwnN w' w.heap.size v l → Below w.heap.size w w' → wpList Tryz.prog ops Q rest (a.put o.dst v) w') :
    wpList Tryz.prog ops Q (o :: rest) a (w.alloc (.cells #[] TN)) := by
  subst hg
  obtain ⟨i0, hi, hz0, hz1, hz2⟩ := info_parts Tryz.infoName
  have hown : (w.alloc (.cells #[] TN)).ownsRow w.heap.size TN 2 (.slice (some ⟨w.heap.size, 0, none⟩) 0 0) 0 [] := World.ownsRow_made w #[] 0 (Nat.le_refl _) (by unfold maxLen; omega) rfl
  have hb := Below.refl w.heap.size w
  have hcl : ∀ l : Nm, (cellsN l).length = l.length * 2 := fun l => by
    unfold cellsN
    exact cells2_len (fun x : Bs × Nat => Value.string (bs x.1)) (fun x => .int .i64 x.2) l
  rcases Nat.eq_zero_or_pos l.length with h0 | h0
  · obtain rfl : l = [] := List.eq_nil_of_length_eq_zero h0
    obtain rfl : n = 0 := by simpa using hn.symm
    refine wpList_append_fits_any _ hgd s x 62 ho w.heap.size TN i0 2 Tryz.underlying62 hi hz1 w.heap.size 0 0 [] hs hown A 0 c [] hx rfl (fun e => ⟨rfl, hA e⟩) (fun ad _ j u hj => by simp at hj) (fun u hu => by simp at hu) (Nat.le_refl _) ?_
    intro w' hown' hgrow
    exact h _ w' hown' ((hb.alloc (Nat.le_refl _) _).grown hgrow (by simp) (fun k hk => by cases hk; exact Nat.le_refl _))
  · obtain ⟨b, off, rfl, hbl, hc⟩ := hr h0
    refine wpList_append_own _ hgd s x 62 ho w.heap.size TN i0 (.agg #[.string ⟨#[]⟩, .int .i64 0]) 2 24 Tryz.underlying62 hi hz0 hz1 hz2 rfl (by decide) _ 0 [] hs hown ⟨b, off, none⟩ n c (cellsN l) hx (by rw [hcl, hn]) (fun j u hj => ?_) (fun u hu => ?_) (by unfold maxLen; omega) (by omega) (by simp) ?_
    · have hjl : j < l.length * 2 := by have := (List.getElem?_eq_some_iff.1 hj).1; rwa [hcl] at this
      rw [Addr.add_mid]
      refine ((((Below.refl w.heap.size w).alloc (Nat.le_refl _) _).cell (p := ⟨b, off + j, none⟩) hbl).trans ?_)
      have hm : j / 2 < l.length := by omega
      obtain ⟨e0, e1⟩ := cellsN_at l (j / 2) hm
      obtain ⟨x0, x1⟩ := hc (j / 2) hm
      rcases Nat.mod_two_eq_zero_or_one j with h2 | h2
      · have e : j / 2 * 2 = j := by omega
        rw [e] at e0 x0
        rw [x0, ← e0]
        exact hj
      · have e : j / 2 * 2 + 1 = j := by omega
        have e' : off + j / 2 * 2 + 1 = off + j := by omega
        rw [e] at e1
        rw [e'] at x1
        rw [x1, ← e1]
        exact hj
    · unfold cellsN at hu
      obtain ⟨x, _, hx⟩ := List.mem_flatMap.1 hu
      simp at hx
      rcases hx with rfl | rfl <;> rfl
    · intro v' w' hown' hgrow _
      refine h v' w' ?_ ((hb.alloc (Nat.le_refl _) _).grown hgrow (by simp) (fun k hk => by cases hk; exact Nat.le_refl _))
      unfold OwnN
      rw [hn]
      rw [Nat.zero_add, List.nil_append] at hown'
      exact hown'
/-- The crash's last step: the names are what is kept, and calls don't fail. -/
theorem rs_crashed {T : Nat → Prop} {X : Nat} {r : R} {w W1 wi : World} (h : Rs T X r w W1) (hb : Below W1.heap.size W1 wi) {v : Value} (hrow : OwnN wi W1.heap.size v r.kept) : Rs T X { r with names := r.kept, fails := false } w ((wi.setCell ⟨X, 2, none⟩ v).setCell ⟨X, 5, none⟩ (.bool false)) := by
  have h2 := h.below hb
  obtain ⟨⟨G, hG⟩, _⟩ := id h2
  obtain ⟨⟨G1, hG1⟩, _⟩ := id h
  have hX1 := hG1.disk.lt
  have hlt := fun b (hb : v.ownBlock = some b) => World.ownsRow.lt hrow b hb
  have hsz := h.2.size
  have o2 := off_set wi X 2 v
  have hR2 := hG.setNames o2 v r.kept (OwnN.base (show OwnN _ _ _ _ from own_off hrow o2 (fun b hb => by show b ≠ X; have := hlt b hb; omega)) (Nat.zero_le _)) (fun b hb => by have := hlt b hb; exact .inr ⟨by omega, this.2⟩) (hG.disk.set 2 v)
  have h3 := Rs.call (F := fun b => b = X) h2 hR2 (fun x hx => by rw [hx]; exact hG.tx) o2
  have o3 := off_set (wi.setCell ⟨X, 2, none⟩ v) X 5 (.bool false)
  obtain ⟨⟨G3, hG3⟩, _⟩ := id h3
  exact Rs.call (F := fun b => b = X) h3 (hG3.told o3 rfl rfl rfl rfl (hG3.disk.set 5 (.bool false))) (fun x hx => by rw [hx]; exact hG3.tx) o3
theorem stay1_ne (s : R × List Int) (q : R) (ks : List Int) (u k : Nat) (h1 : s.1 = q) (h2 : s.2 = ks.drop u) (hne : (rbody q k).now ≠ (rbody q k).kept) : stay1R s k = ({ q with bodies := q.bodies.set k ⟨(rbody q k).now.take ((rbody q k).kept.length + (nextQ (ks.drop u) ((rbody q k).now.length - (rbody q k).kept.length)).1), (rbody q k).now.take ((rbody q k).kept.length + (nextQ (ks.drop u) ((rbody q k).now.length - (rbody q k).kept.length)).1)⟩ }, ks.drop (u + 1)) := by
  subst h1
  unfold stay1R
  rw [if_neg hne, h2, next_drop]
theorem stay1_eq (s : R × List Int) (q : R) (k : Nat) (h1 : s.1 = q) (hk : k < q.bodies.length) (he : (rbody q k).now = (rbody q k).kept) : stay1R s k = s ∧ ({ q with bodies := q.bodies.set k ⟨(rbody q k).kept, (rbody q k).kept⟩ } : R) = q := by
  subst h1
  refine ⟨by unfold stay1R; rw [if_pos he], ?_⟩
  have e : (⟨(rbody s.1 k).kept, (rbody s.1 k).kept⟩ : RB2) = s.1.bodies[k] := by
    rw [rbody_at' hk]
    conv => rhs; rw [show rbody s.1 k = ⟨(rbody s.1 k).now, (rbody s.1 k).kept⟩ from rfl, he]
  rw [e, List.set_getElem_self]
theorem set_twice (q : R) (k : Nat) (x y : RB2) : ({ ({ q with bodies := q.bodies.set k x } : R) with bodies := ({ q with bodies := q.bodies.set k x } : R).bodies.set k y } : R) = { q with bodies := q.bodies.set k y } := by
  show ({ q with bodies := (q.bodies.set k x).set k y } : R) = _
  rw [List.set_set]
theorem slice_txt (l r : List UInt8) (k : Nat) (z : Int) (hz : z = (k : Int)) (hk : k ≤ l.length) (e : l.take k = r) (W : World) : (Instr.slice 9 (.string (bs l)) none (some (.int .i64 z)) none).run Tryz.prog W = .ok (.string (bs r)) W := by
  subst hz
  refine (run_slice_string_h (P := Tryz.prog) W 9 _ Tryz.underlying9 .i64 (k : Int) (by omega) (by have := bs_size l; omega)).trans ?_
  congr 2
  apply ByteArray.ext
  rw [show ((k : Int)).toNat = k from by omega]
  apply Array.ext'
  rw [← e]
  unfold bs
  simp [ByteArray.data_extract]
end Go.Proofs.YtbodkjifpmencaaGreat
