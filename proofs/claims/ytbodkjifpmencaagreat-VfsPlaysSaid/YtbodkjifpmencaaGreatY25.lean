/-
  What the document's keep rests on. No conditions.
-/
import Derived.Test.YtbodkjifpmencaaGreatY24
namespace Go.Proofs.YtbodkjifpmencaaGreat
open Go.RowKit
open Go.Lib

/-- One change's turn: what is still to be kept, what is kept, what stays. -/
def keepSt (d : Bs) (s : Nat × Nm × List RCh) (c : RCh) : Nat × Nm × List RCh := if c.1 ≠ d ∨ s.1 = 0 then (s.1, s.2.1, s.2.2 ++ [c]) else (s.1 - 1, c.2.foldl withR s.2.1, s.2.2)
def keepW (d : Bs) (cs : List RCh) (n : Nat) (l : Nm) : Nat × Nm × List RCh := cs.foldl (keepSt d) (n, l, [])
theorem keepW_gen (d : Bs) : ∀ (cs : List RCh) (n : Nat) (l : Nm) (acc : List RCh), (cs.foldl (keepSt d) (n, l, acc)).2 = ((keepGo d cs n l).1, acc ++ (keepGo d cs n l).2)
  | [], n, l, acc => by simp [keepGo]
  | c :: cs, n, l, acc => by
    rw [List.foldl_cons]
    unfold keepGo
    by_cases h : c.1 ≠ d ∨ n = 0
    · have e : keepSt d (n, l, acc) c = (n, l, acc ++ [c]) := by unfold keepSt; exact if_pos h
      rw [e, if_pos h, keepW_gen d cs n l (acc ++ [c])]
      simp
    · have e : keepSt d (n, l, acc) c = (n - 1, c.2.foldl withR l, acc) := by unfold keepSt; exact if_neg h
      rw [e, if_neg h]
      exact keepW_gen d cs (n - 1) _ acc
theorem keepW_all (d : Bs) (r : R) (n : Nat) : keepR r d n = { r with kept := (keepW d r.changes n r.kept).2.1, changes := (keepW d r.changes n r.kept).2.2 } := by
  have := keepW_gen d r.changes n r.kept []
  unfold keepR keepW
  rw [this]
  rfl
theorem keepW_succ (d : Bs) (cs : List RCh) (n : Nat) (l : Nm) (k : Nat) (h : k < cs.length) : keepW d (cs.take (k + 1)) n l = keepSt d (keepW d (cs.take k) n l) cs[k] := foldl_take _ _ _ _ h
theorem keepW_bd (d : Bs) (cs : List RCh) (hc : ∀ c ∈ cs, c.2.length ≤ 2) (n : Nat) (l : Nm) : ∀ k, k ≤ cs.length → (keepW d (cs.take k) n l).1 ≤ n ∧ (keepW d (cs.take k) n l).2.1.length ≤ l.length + 2 * k ∧ (keepW d (cs.take k) n l).2.2.length ≤ k
  | 0, _ => ⟨Nat.le_refl _, Nat.le_refl _, Nat.le_refl _⟩
  | k + 1, h => by
    obtain ⟨h1, h2, h3⟩ := keepW_bd d cs hc n l k (by omega)
    rw [keepW_succ d cs n l k (by omega)]
    have hx := hc cs[k] (List.getElem_mem _)
    unfold keepSt
    split
    · refine ⟨h1, by show (keepW d (cs.take k) n l).2.1.length ≤ _; omega, ?_⟩
      show ((keepW d (cs.take k) n l).2.2 ++ [cs[k]]).length ≤ _
      rw [List.length_append, List.length_singleton]
      omega
    · refine ⟨by show (keepW d (cs.take k) n l).1 - 1 ≤ _; omega, ?_, by show (keepW d (cs.take k) n l).2.2.length ≤ _; omega⟩
      have := foldW_len cs[k].2 (keepW d (cs.take k) n l).2.1
      show (List.foldl withR (keepW d (cs.take k) n l).2.1 cs[k].2).length ≤ _
      omega
/-- The slices of changes that stand in T. -/
structure ChsOk (w : World) (T : Nat → Prop) (chs : List Value) (l : List RCh) : Prop where
  len : chs.length = l.length
  each : ∀ j (h : j < l.length), ∃ A c, chs[j]? = some (.slice A l[j].2.length c) ∧ RCs w T A l[j].2
theorem ChsOk.nil (w : World) (T : Nat → Prop) : ChsOk w T [] [] := ⟨rfl, fun _ h => absurd h (Nat.not_lt_zero _)⟩
theorem ChsOk.snoc {w : World} {T : Nat → Prop} {chs : List Value} {l : List RCh} (h : ChsOk w T chs l) (x : RCh) (A : Option Addr) (c : Nat) (hA : RCs w T A x.2) : ChsOk w T (chs ++ [.slice A x.2.length c]) (l ++ [x]) := by
  refine ⟨by rw [List.length_append, List.length_append, h.len]; rfl, fun j hj => ?_⟩
  rw [List.length_append, List.length_singleton] at hj
  by_cases hjl : j < l.length
  · obtain ⟨A', c', e, h'⟩ := h.each j hjl
    have e2 : (l ++ [x])[j]'(by rw [List.length_append, List.length_singleton]; exact hj) = l[j] := List.getElem_append_left hjl
    rw [e2]
    exact ⟨A', c', by rw [List.getElem?_append_left (by rw [h.len]; exact hjl)]; exact e, h'⟩
  · obtain rfl : j = l.length := by omega
    have e2 : (l ++ [x])[l.length]'(by rw [List.length_append, List.length_singleton]; exact hj) = x := by simp
    rw [e2]
    refine ⟨A, c, ?_, hA⟩
    rw [← h.len, List.getElem?_append_right (Nat.le_refl _), Nat.sub_self]
    rfl
theorem cellsRC_snoc (l : List RCh) (chs : List Value) (h : chs.length = l.length) (x : RCh) (v : Value) : cellsRC (l ++ [x]) (chs ++ [v]) = cellsRC l chs ++ [.string (bs x.1), v] := by
  unfold cellsRC
  rw [List.zip_append h.symm, List.flatMap_append]
  rfl
theorem own_base0 {w : World} {base base' e size n : Nat} {v : Value} {xs : List Value} (h : w.ownsRow base e size v n xs) (hb : base' ≤ base) : w.ownsRow base' e size v n xs := by
  refine ⟨h.1, ?_⟩
  rcases h.2 with h2 | ⟨g, cap, cur, h1, h2, h3⟩
  · exact .inl h2
  · exact .inr ⟨g, cap, cur, h1, Nat.le_trans hb h2, h3⟩
/-- A change of the disk, as it lies. -/
theorem RD.changeAt {T : Nat → Prop} {X : Nat} {G : RLay} {r : R} {w : World} (H : RD T X G r w) {k : Nat} (hk : k < r.changes.length) {Ac : Option Addr} {nc cc : Nat} (hcv : G.cv = .slice Ac nc cc) : ∃ bc A c, Ac = some ⟨bc, 0, none⟩ ∧ G.cv.ownBlock = some bc ∧ w.cell? ⟨bc, k * 2, none⟩ = some (.string (bs r.changes[k].1)) ∧ w.cell? ⟨bc, k * 2 + 1, none⟩ = some (.slice A r.changes[k].2.length c) ∧ RCs w T A r.changes[k].2 := by
  obtain ⟨A, c, he, hA⟩ := H.each k hk
  have hz : (r.changes.zip G.chs).length = r.changes.length := by rw [List.length_zip, H.chn, Nat.min_self]
  obtain ⟨A0, c0, h1, h2, h3⟩ := r2_of_row (f := fun x : RCh × Value => .string (bs x.1.1)) (g := fun x => x.2) hz H.chg
  rw [hcv] at h1
  obtain ⟨rfl, rfl, rfl⟩ : Ac = A0 ∧ nc = r.changes.length ∧ cc = c0 := by cases h1; exact ⟨rfl, rfl, rfl⟩
  obtain ⟨bc, e, _, hc⟩ := h3 (by rw [hz]; omega)
  obtain ⟨c1, c2⟩ := hc k (by rw [hz]; exact hk)
  rw [Nat.zero_add] at c1 c2
  have hkc : k < G.chs.length := by rw [H.chn]; exact hk
  have hzk : (r.changes.zip G.chs)[k]'(by rw [hz]; exact hk) = (r.changes[k], G.chs[k]) := List.getElem_zip
  rw [hzk] at c1 c2
  rw [List.getElem?_eq_getElem hkc] at he
  rw [Option.some.inj he] at c2
  exact ⟨bc, A, c, e, by rw [← h2, e]; rfl, c1, c2, hA⟩
/-- The kept names have been made anew. -/
theorem RD.setKept {T : Nat → Prop} {X : Nat} {G : RLay} {r : R} {w w' : World} (H : RD T X G r w) (ho : Off (fun b => b = X) w w') (v : Value) (l : Nm) (hv : OwnN w' 0 v l) (hT : ∀ b, v.ownBlock = some b → T b) (hd : Blk X (.cells (rcells { G with kv := v } { r with kept := l }) TDk (0, 0)) w') : RD T X { G with kv := v } { r with kept := l } w' := by
  have kx : kindAt w X = some (some TDk) := H.disk.kind
  have ne : ∀ {e : TypeId} {n size : Nat} {v : Value} {xs : List Value}, w.ownsRow 0 e size v n xs → e ≠ TDk → ∀ b, v.ownBlock = some b → b ≠ X := fun h he b hb e => ne_kind (row_kind h hb) kx (by intro e2; exact he (Option.some.inj e2)) e
  refine ⟨hd, H.tx, own_off H.bods ho (ne H.bods (by decide)), H.tb, own_off H.nams ho (ne H.nams (by decide)), H.tn, hv, hT, H.chn, own_off H.chg ho (ne H.chg (by decide)), H.tc, fun j hj => ?_⟩
  obtain ⟨A, c, e, h⟩ := H.each j hj
  exact ⟨A, c, e, h.off ho (fun b _ hk => ne_kind hk kx (by decide))⟩
/-- The changes have been made anew. -/
theorem RD.setChg {T : Nat → Prop} {X : Nat} {G : RLay} {r : R} {w w' : World} (H : RD T X G r w) (ho : Off (fun b => b = X) w w') (v : Value) (chs : List Value) (l : List RCh) (hC : ChsOk w T chs l) (hv : w'.ownsRow 0 TCh 2 v l.length (cellsRC l chs)) (hT : ∀ b, v.ownBlock = some b → T b) (hd : Blk X (.cells (rcells { G with cv := v, chs := chs } { r with changes := l }) TDk (0, 0)) w') : RD T X { G with cv := v, chs := chs } { r with changes := l } w' := by
  have kx : kindAt w X = some (some TDk) := H.disk.kind
  have ne : ∀ {e : TypeId} {n size : Nat} {v : Value} {xs : List Value}, w.ownsRow 0 e size v n xs → e ≠ TDk → ∀ b, v.ownBlock = some b → b ≠ X := fun h he b hb e => ne_kind (row_kind h hb) kx (by intro e2; exact he (Option.some.inj e2)) e
  refine ⟨hd, H.tx, own_off H.bods ho (ne H.bods (by decide)), H.tb, own_off H.nams ho (ne H.nams (by decide)), H.tn, own_off H.kept ho (ne H.kept (by decide)), H.tk, hC.len, hv, hT, fun j hj => ?_⟩
  obtain ⟨A, c, e, h⟩ := hC.each j hj
  exact ⟨A, c, e, h.off ho (fun b _ hk => ne_kind hk kx (by decide))⟩
/-- Only a row of changes that isn't the disk's has grown. -/
theorem RD.offCh {F T : Nat → Prop} {X : Nat} {G : RLay} {r : R} {w w' : World} (H : RD T X G r w) (ho : Off F w w') (hF : ∀ b, F b → kindAt w b = some (some TCh) ∧ G.cv.ownBlock ≠ some b) : RD T X G r w' := by
  have ne : ∀ {e : TypeId} {n size : Nat} {v : Value} {xs : List Value}, w.ownsRow 0 e size v n xs → e ≠ TCh → ∀ b, v.ownBlock = some b → ¬ F b := fun h he b hb hx => ne_kind (row_kind h hb) (hF b hx).1 (by intro e2; exact he (Option.some.inj e2)) rfl
  refine ⟨ho.blk H.disk (fun hx => ne_kind H.disk.kind (hF X hx).1 (show (some TDk : Option TypeId) ≠ some TCh by decide) rfl), H.tx, own_off H.bods ho (ne H.bods (by decide)), H.tb, own_off H.nams ho (ne H.nams (by decide)), H.tn, own_off H.kept ho (ne H.kept (by decide)), H.tk, H.chn, own_off H.chg ho (fun b hb hx => (hF b hx).2 hb), H.tc, fun j hj => ?_⟩
  obtain ⟨A, c, e, h⟩ := H.each j hj
  exact ⟨A, c, e, h.off ho (fun b _ hk hx => ne_kind hk (hF b hx).1 (by decide) rfl)⟩
/-- Behind some of the outer loop's rounds. -/
def kpInv (T : Nat → Prop) (X : Nat) (G : RLay) (r : R) (w : World) (d : Bs) (n : Nat) (k n' : Nat) (vr : Value) (wr : World) : Prop :=
  (keepW d (r.changes.take k) n r.kept).1 = n' ∧ ∃ v chs, RD (More T w wr) X { G with kv := v } { r with kept := (keepW d (r.changes.take k) n r.kept).2.1 } wr ∧ Off (fun b => b = X) w wr ∧ wr.ownsRow w.heap.size TCh 2 vr (keepW d (r.changes.take k) n r.kept).2.2.length (cellsRC (keepW d (r.changes.take k) n r.kept).2.2 chs) ∧ ChsOk w T chs (keepW d (r.changes.take k) n r.kept).2.2
/-- Behind some of the inner loop's rounds. -/
def kiInv (T : Nat → Prop) (X : Nat) (G : RLay) (r : R) (w : World) (m0 : Nm) (vr : Value) (nr : Nat) (xs : List Value) (l : List (Bs × Option Nat)) (k : Nat) (wr : World) : Prop :=
  ∃ v, RD (More T w wr) X { G with kv := v } { r with kept := (l.take k).foldl withR m0 } wr ∧ Off (fun b => b = X) w wr ∧ wr.ownsRow w.heap.size TCh 2 vr nr xs
theorem ki_step {T : Nat → Prop} {X : Nat} {G : RLay} {r : R} {w wr wa w5 : World} {m0 : Nm} {vr : Value} {nr : Nat} {xs : List Value} {l : List (Bs × Option Nat)} {k : Nat} (hk : k < l.length) (h : kiInv T X G r w m0 vr nr xs l k wr) (hx : X < w.heap.size) (ha : Off (fun _ => False) wr wa) (hb : Below wa.heap.size wa w5) (v : Value) (hv : OwnN w5 wa.heap.size v (withR ((l.take k).foldl withR m0) l[k])) : kiInv T X G r w m0 vr nr xs l (k + 1) (w5.setCell ⟨X, 3, none⟩ v) := by
  obtain ⟨v0, hR, ho, hrow⟩ := h
  have o2 : Off (fun b => b = X) wr (w5.setCell ⟨X, 3, none⟩ v) := ((ha.mono (fun _ h => h.elim)).trans ((Off.of_below hb).mono (G := fun b => b = X) (fun _ h => h.elim)) (fun _ h => .inl h)).trans (off_set w5 X 3 v) (fun _ h => .inl h)
  have hs : w5.heap.size ≤ (w5.setCell ⟨X, 3, none⟩ v).heap.size := (off_set w5 X 3 v).size
  have hsz : wr.heap.size ≤ (w5.setCell ⟨X, 3, none⟩ v).heap.size := o2.size
  have hw5 : Blk X (.cells (rcells { G with kv := v0 } { r with kept := (l.take k).foldl withR m0 }) TDk (0, 0)) w5 := (Off.of_below hb).blk (ha.blk hR.disk (fun h => h)) (fun h => h)
  have hd := hw5.set 3 v
  have hne : ∀ b, v.ownBlock = some b → b ≠ X := fun b hb' => by
    have h1 := World.ownsRow.lt hv b hb'
    have h2 := ha.size
    have h3 := ho.size
    omega
  have R1 := (hR.mono (T' := More T w (w5.setCell ⟨X, 3, none⟩ v)) (fun b hb => hb.mono hsz)).setKept o2 v (withR ((l.take k).foldl withR m0) l[k]) (OwnN.base (show OwnN _ _ _ _ from own_off hv (off_set w5 X 3 v) hne) (Nat.zero_le _)) (fun b hb' => by
    have h1 := World.ownsRow.lt hv b hb'
    have h2 := ha.size
    have h3 := ho.size
    exact .inr ⟨by omega, Nat.lt_of_lt_of_le h1.2 hs⟩) hd
  refine ⟨v, ?_, ho.trans o2 (fun _ h => .inl h), own_off hrow o2 (fun b hb' => by
    have h1 := World.ownsRow.lt hrow b hb'
    show b ≠ X
    omega)⟩
  rw [foldW_succ l m0 k hk]
  exact R1
/-- A change that stays. -/
theorem kp_keep {T : Nat → Prop} {X : Nat} {G : RLay} {r : R} {w wr wa w6 : World} {d : Bs} {n k n' : Nat} {vr v6 : Value} {v : Value} {chs : List Value} (hk : k < r.changes.length) (hn' : (keepW d (r.changes.take k) n r.kept).1 = n') (hR : RD (More T w wr) X { G with kv := v } { r with kept := (keepW d (r.changes.take k) n r.kept).2.1 } wr) (ho : Off (fun b => b = X) w wr) (hrow : wr.ownsRow w.heap.size TCh 2 vr (keepW d (r.changes.take k) n r.kept).2.2.length (cellsRC (keepW d (r.changes.take k) n r.kept).2.2 chs)) (hC : ChsOk w T chs (keepW d (r.changes.take k) n r.kept).2.2)
    (hT : ∀ b, T b → b < w.heap.size) (htc : ∀ b, G.cv.ownBlock = some b → T b) (hstay : r.changes[k].1 ≠ d ∨ n' = 0) (hba : Below wr.heap.size wr wa) (hg6 : wa.grownBy w6 vr.ownBlock) (A : Option Addr) (c : Nat) (hA : RCs w T A r.changes[k].2) (hown : w6.ownsRow w.heap.size TCh 2 v6 ((keepW d (r.changes.take k) n r.kept).2.2.length + 1) (cellsRC (keepW d (r.changes.take k) n r.kept).2.2 chs ++ [.string (bs r.changes[k].1), .slice A r.changes[k].2.length c])) : kpInv T X G r w d n (k + 1) n' v6 w6 := by
  have hst : keepW d (r.changes.take (k + 1)) n r.kept = (n', (keepW d (r.changes.take k) n r.kept).2.1, (keepW d (r.changes.take k) n r.kept).2.2 ++ [r.changes[k]]) := by
    rw [keepW_succ d r.changes n r.kept k hk]
    unfold keepSt
    rw [if_pos (by rw [hn']; exact hstay), hn']
  have o1 : Off (fun b => vr.ownBlock = some b) wr w6 := ((Off.of_below hba).mono (fun _ h => h.elim)).trans (Off.of_grown hg6) (fun _ h => .inl h)
  unfold kpInv
  rw [hst]
  refine ⟨rfl, v, chs ++ [.slice A r.changes[k].2.length c], (hR.offCh o1 (fun b hb => ⟨row_kind hrow hb, fun e => ?_⟩)).mono (fun b hb => hb.mono o1.size), ho.trans o1 (fun b hb => .inr (World.ownsRow.lt hrow b hb).1), ?_, hC.snoc _ A c hA⟩
  · have h1 := World.ownsRow.lt hrow b hb
    have h2 := hT b (htc b e)
    omega
  · rw [cellsRC_snoc _ _ hC.len, List.length_append]
    exact hown
/-- A change that is kept. -/
theorem kp_took {T : Nat → Prop} {X : Nat} {G : RLay} {r : R} {w wr : World} {d : Bs} {n k n' : Nat} {vr : Value} {chs : List Value} (hk : k < r.changes.length) (hn' : (keepW d (r.changes.take k) n r.kept).1 = n') (hC : ChsOk w T chs (keepW d (r.changes.take k) n r.kept).2.2) (hgo : ¬ (r.changes[k].1 ≠ d ∨ n' = 0)) (l : List (Bs × Option Nat)) (hl : r.changes[k].2 = l) (m : Nat) (hm : l.length = m) (h : kiInv T X G r w (keepW d (r.changes.take k) n r.kept).2.1 vr (keepW d (r.changes.take k) n r.kept).2.2.length (cellsRC (keepW d (r.changes.take k) n r.kept).2.2 chs) l m wr) : kpInv T X G r w d n (k + 1) (n' - 1) vr wr := by
  subst hm
  subst hl
  have hst : keepW d (r.changes.take (k + 1)) n r.kept = (n' - 1, List.foldl withR (keepW d (r.changes.take k) n r.kept).2.1 r.changes[k].2, (keepW d (r.changes.take k) n r.kept).2.2) := by
    rw [keepW_succ d r.changes n r.kept k hk]
    unfold keepSt
    rw [if_neg (by rw [hn']; exact hgo), hn']
  obtain ⟨v, hR, ho, hrow⟩ := h
  rw [List.take_length] at hR
  unfold kpInv
  rw [hst]
  exact ⟨rfl, v, chs, hR, ho, hrow, hC⟩
theorem kp_end {T : Nat → Prop} {X : Nat} {G : RLay} {r : R} {w wr : World} {d : Bs} {n k n' : Nat} {vr : Value} (hk : r.changes.length = k) (hT : ∀ b, T b → b < w.heap.size) (H : RD T X G r w) (h : kpInv T X G r w d n k n' vr wr) : (∃ G', RD (More T w (wr.setCell ⟨X, 4, none⟩ vr)) X G' (keepR r d n) (wr.setCell ⟨X, 4, none⟩ vr)) ∧ Off (fun b => b = X) w (wr.setCell ⟨X, 4, none⟩ vr) := by
  subst hk
  obtain ⟨_, v, chs, hR, ho, hrow, hC⟩ := h
  rw [List.take_length] at hR hrow hC
  have o2 := off_set wr X 4 vr
  have hs := o2.size
  have hX := hT X H.tx
  have hC2 : ChsOk wr (More T w (wr.setCell ⟨X, 4, none⟩ vr)) chs (keepW d r.changes n r.kept).2.2 := ⟨hC.len, fun j hj => by
    obtain ⟨A, c, e, h⟩ := hC.each j hj
    exact ⟨A, c, e, (h.off ho (fun b _ hk' => ne_kind hk' H.disk.kind (show (some TN : Option TypeId) ≠ some TDk by decide))).mono (fun _ h => .inl h)⟩⟩
  rw [keepW_all]
  refine ⟨⟨_, (hR.mono (T' := More T w (wr.setCell ⟨X, 4, none⟩ vr)) (fun b hb => hb.mono hs)).setChg o2 vr chs _ hC2 (own_base0 (own_off hrow o2 (fun b hb => ?_)) (Nat.zero_le _)) (fun b hb => ?_) (hR.disk.set 4 vr)⟩, ho.trans o2 (fun _ h => .inl h)⟩
  · have h1 := World.ownsRow.lt hrow b hb
    show b ≠ X
    omega
  · have h1 := World.ownsRow.lt hrow b hb
    exact .inr ⟨h1.1, Nat.lt_of_lt_of_le h1.2 hs⟩
end Go.Proofs.YtbodkjifpmencaaGreat
