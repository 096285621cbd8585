/-
  Of the proof that disks answer every script as the document says: the parts VgA VgB VgC VgD. No conditions.
-/
import Derived.Test.YtbodkjifpmencaaGreatY16
import Derived.Test.YtbodkjifpmencaaGreatY19
namespace Go.Proofs.YtbodkjifpmencaaGreat
open Go.RowKit
open Go.Lib

/-- A slice that reads as names. -/
def RN (w : World) (A : Option Addr) (l : Nm) : Prop :=
  0 < l.length → ∃ b off, A = some ⟨b, off, none⟩ ∧ b < w.heap.size ∧ ∀ j (h : j < l.length), w.cell? ⟨b, off + j * 2, none⟩ = some (.string (bs l[j].1)) ∧ w.cell? ⟨b, off + j * 2 + 1, none⟩ = some (.int .i64 l[j].2)
def intO (o : Option Nat) : Int := match o with | none => -1 | some k => k
theorem RN.below {w w' : World} {A : Option Addr} {l : Nm} (h : RN w A l) (hb : Below w.heap.size w w') : RN w' A l := fun h0 => by
  obtain ⟨b, off, e, hlt, hc⟩ := h h0
  exact ⟨b, off, e, Nat.lt_of_lt_of_le hlt hb.size, fun j hj => ⟨hb.cell hlt |>.trans (hc j hj).1, hb.cell hlt |>.trans (hc j hj).2⟩⟩
theorem look_first {l : Nm} {p : Bs} {k : Nat} (hk : k < l.length) (h : ∀ j (hj : j < k), l[j].1 ≠ p) (he : l[k].1 = p) : look l p = some l[k].2 := by
  unfold look
  have : l.find? (fun x => decide (x.1 = p)) = some l[k] := by
    rw [List.find?_eq_some_iff_getElem]
    exact ⟨by simp [he], k, hk, rfl, fun j hj => by simp [h j hj]⟩
  rw [this]
  rfl
theorem look_nowhere {l : Nm} {p : Bs} (h : ∀ j (hj : j < l.length), l[j].1 ≠ p) : look l p = none := by
  unfold look
  rw [List.find?_eq_none.2 (fun x hx => ?_)]
  · rfl
  · obtain ⟨j, hj, rfl⟩ := List.getElem_of_mem hx
    simp [h j hj]
theorem of_eqB {a b : Bs} (h : ((bs a).toList == (bs b).toList) = true) : a = b := by
  rw [eqS, Lib.toList_data, bs_list, bs_list] at h
  exact eq_of_beq h
theorem eqB_of {a b : Bs} (h : a = b) : ((bs a).toList == (bs b).toList) = true := by rw [h]; simp
set_option maxRecDepth 100000 in
theorem rat_any (l : Nm) (A : Option Addr) (c : Nat) (p : Bs) (n : Nat) (hn : l.length = n) (w : World) (hA : RN w A l) (hlen : n ≤ 10000000) (_hp : p.length ≤ 281474976710656) : Calls Tryz.prog 36 #[.slice A n c, .string (bs p)] w fun e w' => e = .returned (.int .i64 (intO (look l p))) ∧ Below w.heap.size w w' := by
  have HA := Lib.hid hA
  have HN := Lib.hid hn
  clear hA hn
  go_enter Tryz.func36, Tryz.ntmps36
  go_wp2
  go_loopw [9] (fun i wr => ∃ k, k ≤ n ∧ i = .int .i64 k ∧ Below w.heap.size w wr ∧ Hid (∀ j (hj : j < k) (hl : j < l.length), l[j].1 ≠ p)) (fun i _ => n - (RowKit.intOf i).toNat)
  case atStart => exact ⟨0, Nat.zero_le _, rfl, Below.refl _ _, Lib.hid fun j hj => absurd hj (Nat.not_lt_zero _)⟩
  case round =>
    obtain ⟨k, hk, rfl, hb, hI⟩ := hrel
    by_cases hlt : k < n
    · have hkl : k < l.length := by rw [HN.out]; exact hlt
      obtain ⟨b, off, hAe, hbl, hc⟩ := (HA.out.below hb) (by rw [HN.out]; omega)
      obtain ⟨c0, c1⟩ := hc k hkl
      obtain ⟨F, hF⟩ : ∃ F, l[k].1 = F := ⟨_, rfl⟩
      obtain ⟨z, hz⟩ : ∃ z, ((l[k].2 : Nat) : Int) = z := ⟨_, rfl⟩
      rw [hF] at c0
      rw [hz] at c1
      subst hAe
      clear hc
      have HF := Lib.hid hF
      have HZ := Lib.hid hz
      clear hF hz
      by_cases hx : ((bs F).toList == (bs p).toList) = true
      · go_wp2
        go_ret
        refine ⟨?_, hb.alloc hb.size _⟩
        have e : F = p := of_eqB hx
        have := look_first hkl (fun j hj => hI.out j hj (by omega)) (HF.out.trans e)
        rw [this, ← HZ.out]
        rfl
      · go_wp2
        exact ⟨⟨k + 1, by omega, rfl, hb.alloc hb.size _, Lib.hid fun j hj hl => by
          by_cases hjk : j = k
          · subst hjk
            intro e
            exact hx (eqB_of (HF.out.symm.trans e))
          · exact hI.out j (by omega) hl⟩, by show n - ((k : Int) + 1).toNat < n - (k : Int).toNat; omega⟩
    · obtain rfl : k = n := by omega
      go_wp2
      go_ret
      refine ⟨?_, hb⟩
      rw [look_nowhere (fun j hj => hI.out j (by rw [← HN.out]; exact hj) hj)]
      rfl
end Go.Proofs.YtbodkjifpmencaaGreat
namespace Go.Proofs.YtbodkjifpmencaaGreat
open Go.RowKit
open Go.Lib

abbrev TN : TypeId := 78
def cellsN (l : Nm) : List Value := l.flatMap fun x => [.string (bs x.1), .int .i64 x.2]
theorem cellsN_append (a b : Nm) : cellsN (a ++ b) = cellsN a ++ cellsN b := by unfold cellsN; rw [List.flatMap_append]
theorem cellsN_at : ∀ (l : Nm) (j : Nat) (h : j < l.length), (cellsN l)[j * 2]? = some (.string (bs l[j].1)) ∧ (cellsN l)[j * 2 + 1]? = some (.int .i64 l[j].2)
  | c :: r, 0, _ => ⟨rfl, rfl⟩
  | c :: r, j + 1, h => by
    have ih := cellsN_at r j (by simpa using h)
    have e : cellsN (c :: r) = [.string (bs c.1), .int .i64 c.2] ++ cellsN r := rfl
    rw [e]
    have x0 : (j + 1) * 2 = j * 2 + 2 := by omega
    rw [x0, List.getElem?_append_right (by simp), List.getElem?_append_right (by show 2 ≤ _; omega)]
    simp only [List.length_cons, List.length_nil, List.getElem_cons_succ]
    have y0 : j * 2 + 2 - (0 + 1 + 1) = j * 2 := by omega
    have y1 : j * 2 + 2 + 1 - (0 + 1 + 1) = j * 2 + 1 := by omega
    rw [y0, y1]
    exact ih
/-- A row of names. -/
def OwnN (w : World) (base : Nat) (v : Value) (l : Nm) : Prop := w.ownsRow base TN 2 v l.length (cellsN l)
theorem rn_of_row {w : World} {base : Nat} {v : Value} {l : Nm} (h : OwnN w base v l) : ∃ A c, v = .slice A l.length c ∧ RN w A l := by
  have hlt := World.ownsRow.lt h
  rcases h.2 with ⟨rfl, hn⟩ | ⟨g, cap, cur, rfl, hb, hh, hc, hm, hsz, htake⟩
  · exact ⟨none, 0, by rw [hn], fun hz => absurd hz (by omega)⟩
  · refine ⟨some ⟨g, 0, none⟩, cap, rfl, fun _ => ⟨g, 0, rfl, (hlt g rfl).2, fun j hj => ?_⟩⟩
    have hc2 := cellsN_at l j hj
    have cell : ∀ i u, (cellsN l)[i]? = some u → w.cell? ⟨g, i, none⟩ = some u := fun i u hu => by
      have := World.ownsRow.cells h (g := g) rfl i u hu
      rwa [Addr.add_mid, Nat.zero_add] at this
    rw [Nat.zero_add]
    exact ⟨cell _ _ hc2.1, cell _ _ hc2.2⟩
theorem OwnN.alloc {w : World} {base : Nat} {v : Value} {l : Nm} (h : OwnN w base v l) (o : Obj) : OwnN (w.alloc o) base v l := own_off h (Off.of_below ((Below.refl w.heap.size w).alloc (Nat.le_refl _) o)) (fun _ _ h => h)
theorem OwnN.snoc {w : World} {base : Nat} {v : Value} {l : Nm} (x : Bs × Nat) (h : w.ownsRow base TN 2 v (l.length + 1) (cellsN l ++ [.string (bs x.1), .int .i64 x.2])) : OwnN w base v (l ++ [x]) := by
  unfold OwnN
  rw [cellsN_append, List.length_append]
  exact h
theorem OwnN.base {w : World} {base base' : Nat} {v : Value} {l : Nm} (h : OwnN w base v l) (hb : base' ≤ base) : OwnN w base' v l := by
  refine ⟨h.1, ?_⟩
  rcases h.2 with h2 | ⟨g, cap, cur, h1, h2, h3⟩
  · exact .inl h2
  · exact .inr ⟨g, cap, cur, h1, Nat.le_trans hb h2, h3⟩
theorem drop_take_succ (l : Nm) (p : Bs) (k : Nat) (h : k < l.length) : dropN (l.take (k + 1)) p = dropN (l.take k) p ++ (if l[k].1 = p then [] else [l[k]]) := by
  unfold dropN
  rw [List.take_succ_eq_append_getElem h, List.filter_append]
  congr 1
  by_cases hp : l[k].1 = p <;> simp [hp]
theorem drop_len (l : Nm) (p : Bs) (k : Nat) : (dropN (l.take k) p).length ≤ l.length := by
  unfold dropN
  refine Nat.le_trans (List.length_filter_le _ _) ?_
  rw [List.length_take]
  omega
set_option maxRecDepth 100000 in
set_option maxHeartbeats 2000000 in
theorem rwith_any (l : Nm) (A : Option Addr) (c : Nat) (p : Bs) (o : Option Nat) (n : Nat) (hn : l.length = n) (w : World) (hA : RN w A l) (hlen : n ≤ 1000000) :
    Calls Tryz.prog 76 #[.slice A n c, .agg #[.string (bs p), .int .i64 (intO o)]] w fun e w' => ∃ v, e = .returned v ∧ OwnN w' w.heap.size v (withR l (p, o)) ∧ Below w.heap.size w w' := by
  obtain ⟨i0, hi, hz0, hz1, hz2⟩ := info_parts Tryz.infoName
  obtain ⟨z0, hz0'⟩ : ∃ z, intO o = z := ⟨_, rfl⟩
  have HO := Lib.hid hz0'
  rw [hz0']
  clear hz0'
  obtain ⟨B, hB⟩ : ∃ B, w.heap.size = B := ⟨_, rfl⟩
  obtain ⟨W1, hW1⟩ : ∃ V, w.alloc (.cells #[.string (bs p), .int .i64 z0] TN) = V := ⟨_, rfl⟩
  have hbx := Blk.new (.cells #[.string (bs p), .int .i64 z0] TN (0, 0)) w
  have hb1 : Below w.heap.size w W1 := by rw [← hW1]; exact (Below.refl _ _).alloc (Nat.le_refl _) _
  have hs1 : W1.heap.size = B + 1 := by rw [← hW1, ← hB]; simp
  rw [hW1, hB] at hbx
  have e0 : W1.cell? ⟨B, 0, none⟩ = some (.string (bs p)) := hbx.cell 0
  have e1 : W1.cell? ⟨B, 1, none⟩ = some (.int .i64 z0) := hbx.cell 1
  have HA := Lib.hid (hA.below hb1)
  have HB1 := Lib.hid hb1
  have HN := Lib.hid hn
  clear hb1 hbx hA hn
  go_enter Tryz.func76, Tryz.ntmps76
  go_wp2
  go_loopw [5, 10] (fun v i wr => ∃ k, k ≤ n ∧ i = .int .i64 k ∧ Below (B + 1) W1 wr ∧ Hid (OwnN wr (B + 1) v (dropN (l.take k) p)) ∧ ∃ vA vn vc, v = .slice vA vn vc) (fun _ i _ => n - (RowKit.intOf i).toNat)
  case atStart => exact ⟨0, Nat.zero_le _, rfl, Below.refl _ _, Lib.hid (World.ownsRow_nil _ _ _ _), _, _, _, rfl⟩
  case round =>
    obtain ⟨k, hk, rfl, hb, hI, vA, vn, vc, rfl⟩ := hrel
    have f0 := (hb.cell (p := ⟨B, 0, none⟩) (Nat.lt_succ_self _)).trans e0
    have f1 := (hb.cell (p := ⟨B, 1, none⟩) (Nat.lt_succ_self _)).trans e1
    by_cases hlt : k < n
    · have hkl : k < l.length := by rw [HN.out]; exact hlt
      obtain ⟨b, off, hAe, hbl, hc⟩ := (HA.out.below (by rw [hs1]; exact hb)) (by rw [HN.out]; omega)
      obtain ⟨c0, c1⟩ := hc k hkl
      obtain ⟨F, hF⟩ : ∃ F, l[k].1 = F := ⟨_, rfl⟩
      obtain ⟨z, hz⟩ : ∃ z, ((l[k].2 : Nat) : Int) = z := ⟨_, rfl⟩
      rw [hF] at c0
      rw [hz] at c1
      subst hAe
      clear hc
      have HF := Lib.hid hF
      have HZ := Lib.hid hz
      have hsz := hb.size
      clear hF hz
      have hlen2 : (dropN (l.take k) p).length ≤ n := by rw [← HN.out]; exact drop_len l p k
      have g0 : (wr.alloc (.cells #[.string (bs F), .int .i64 z] TN)).cell? ⟨B, 0, none⟩ = some (.string (bs p)) := (((Below.refl wr.heap.size wr).alloc (Nat.le_refl _) _).cell (p := ⟨B, 0, none⟩) (by show B < wr.heap.size; omega)).trans f0
      by_cases hx : ((bs F).toList == (bs p).toList) = true
      · go_wp2
        refine ⟨⟨k + 1, by omega, rfl, hb.alloc (by omega) _, Lib.hid ?_, _, _, _, rfl⟩, by show n - ((k : Int) + 1).toNat < n - (k : Int).toNat; omega⟩
        rw [drop_take_succ l p k hkl, if_pos (HF.out.trans (of_eqB hx)), List.append_nil]
        exact hI.out.alloc _
      · have HOW := Lib.hid ((hI.out.alloc (.cells #[.string (bs F), .int .i64 z] TN)).alloc (.cells #[.string (bs F), .int .i64 z] TN))
        have hnews := two_news (wr.alloc (.cells #[.string (bs F), .int .i64 z] TN)) (.string (bs F)) (.int .i64 z) TN
        have hws : (wr.alloc (.cells #[.string (bs F), .int .i64 z] TN)).heap.size = wr.heap.size + 1 := by simp
        rw [hws] at hnews
        have HNW := Lib.hid hnews
        clear hnews
        go_wp2_with (at_builtin; refine wpList_append_own _ rfl _ _ 62 rfl (B + 1) TN i0 (.agg #[.string ⟨#[]⟩, .int .i64 0]) 2 24 Tryz.underlying62 hi hz0 hz1 hz2 rfl (by decide) (.slice vA vn vc) _ _ rfl HOW.out ⟨wr.heap.size + 1, 0, none⟩ 1 1 [.string (bs F), .int .i64 z] rfl rfl HNW.out (fun u hu => by simp at hu; rcases hu with rfl | rfl <;> rfl) (by unfold maxLen; omega) (by omega) (by simp; omega) ?_; intro v' w6 hown' hg6 _; obtain ⟨A6, n6, c6, rfl⟩ := own_slice hown')
        refine ⟨⟨k + 1, by omega, rfl, ((hb.alloc (by omega) _).alloc (by rw [hws]; omega) _).grown hg6 (by simp; omega) (fun j hj => (World.ownsRow.lt HOW.out j hj).1), Lib.hid ?_, _, _, _, rfl⟩, by show n - ((k : Int) + 1).toNat < n - (k : Int).toNat; omega⟩
        rw [drop_take_succ l p k hkl, if_neg (fun e => hx (eqB_of (HF.out.symm.trans e)))]
        refine OwnN.snoc _ ?_
        rw [HF.out, HZ.out]
        exact hown'
    · obtain rfl : k = n := by omega
      have hsz := hb.size
      have htk : l.take k = l := List.take_of_length_le (by rw [HN.out]; exact Nat.le_refl _)
      rw [htk] at hI
      have hlen2 : (dropN l p).length ≤ k := by have := drop_len l p k; rw [htk, HN.out] at this; exact this
      clear htk
      by_cases hz : 0 ≤ z0
      · have HOW := Lib.hid (hI.out.alloc (.cells #[.string (bs p), .int .i64 z0] TN))
        have HNW := Lib.hid (two_news wr (.string (bs p)) (.int .i64 z0) TN)
        go_wp2_with (at_builtin; refine wpList_append_own _ rfl _ _ 62 rfl (B + 1) TN i0 (.agg #[.string ⟨#[]⟩, .int .i64 0]) 2 24 Tryz.underlying62 hi hz0 hz1 hz2 rfl (by decide) (.slice vA vn vc) _ _ rfl HOW.out ⟨wr.heap.size, 0, none⟩ 1 1 [.string (bs p), .int .i64 z0] rfl rfl HNW.out (fun u hu => by simp at hu; rcases hu with rfl | rfl <;> rfl) (by unfold maxLen; omega) (by omega) (by simp; omega) ?_; intro v' w6 hown' hg6 _; obtain ⟨A6, n6, c6, rfl⟩ := own_slice hown')
        go_ret
        refine ⟨_, rfl, ?_, ?_⟩
        · cases o with
          | none => have := HO.out; unfold intO at this; dsimp only at this; omega
          | some j =>
            have hj : (j : Int) = z0 := HO.out
            have h2 : OwnN w6 (B + 1) (.slice A6 n6 c6) (dropN l p ++ [(p, j)]) := OwnN.snoc _ (by rw [hj]; exact hown')
            rw [hB]
            exact h2.base (Nat.le_succ _)
        · rw [hB]
          refine (show Below B w W1 by rw [← hB]; exact HB1.out).trans (Below.mono ?_ (Nat.le_succ B))
          exact ((hb.alloc (by omega) _).grown hg6 (by simp; omega) (fun j hj => (World.ownsRow.lt HOW.out j hj).1))
      · go_wp2
        go_ret
        refine ⟨_, rfl, ?_, ?_⟩
        · cases o with
          | none => exact hI.out.base (Nat.le_succ _)
          | some j => have := HO.out; unfold intO at this; dsimp only at this; omega
        · first | rw [hB] | skip
          exact (show Below B w W1 by rw [← hB]; exact HB1.out).trans (hb.mono (Nat.le_succ B))
end Go.Proofs.YtbodkjifpmencaaGreat
namespace Go.Proofs.YtbodkjifpmencaaGreat
open Go.RowKit
open Go.Lib

abbrev TDk : TypeId := 65
abbrev TBd : TypeId := 76
abbrev TCh : TypeId := 106
def cellsRB (l : List RB2) : List Value := l.flatMap fun x => [.string (bs x.now), .string (bs x.kept)]
def cellsRC (l : List RCh) (vs : List Value) : List Value := (l.zip vs).flatMap fun x => [.string (bs x.1.1), x.2]
/-- A slice that reads as a change's names. -/
def RCs (w : World) (T : Nat → Prop) (A : Option Addr) (l : List (Bs × Option Nat)) : Prop :=
  0 < l.length → ∃ b off, A = some ⟨b, off, none⟩ ∧ T b ∧ kindAt w b = some (some TN) ∧ ∀ j (h : j < l.length), w.cell? ⟨b, off + j * 2, none⟩ = some (.string (bs l[j].1)) ∧ w.cell? ⟨b, off + j * 2 + 1, none⟩ = some (.int .i64 (intO l[j].2))
structure RLay where
  bv : Value
  nv : Value
  kv : Value
  cv : Value
  chs : List Value
def rcells (G : RLay) (r : R) : Array Value := #[.int .i64 r.room, G.bv, G.nv, G.kv, G.cv, .bool r.fails, .bool r.once, .int .i64 r.calls]
/-- The document's disk r at block X; its blocks are among T. -/
structure RD (T : Nat → Prop) (X : Nat) (G : RLay) (r : R) (w : World) : Prop where
  disk : Blk X (.cells (rcells G r) TDk (0, 0)) w
  tx : T X
  bods : w.ownsRow 0 TBd 2 G.bv r.bodies.length (cellsRB r.bodies)
  tb : ∀ b, G.bv.ownBlock = some b → T b
  nams : OwnN w 0 G.nv r.names
  tn : ∀ b, G.nv.ownBlock = some b → T b
  kept : OwnN w 0 G.kv r.kept
  tk : ∀ b, G.kv.ownBlock = some b → T b
  chn : G.chs.length = r.changes.length
  chg : w.ownsRow 0 TCh 2 G.cv r.changes.length (cellsRC r.changes G.chs)
  tc : ∀ b, G.cv.ownBlock = some b → T b
  each : ∀ j (h : j < r.changes.length), ∃ A c, G.chs[j]? = some (.slice A r.changes[j].2.length c) ∧ RCs w T A r.changes[j].2
theorem off_kind {F : Nat → Prop} {w w' : World} {b : Nat} {k : Option TypeId} (h : Off F w w') (hk : kindAt w b = some k) (hF : ¬ F b) : kindAt w' b = some k := by
  unfold kindAt at *
  rw [h.block b ?_ hF]
  · exact hk
  · refine Nat.lt_of_not_le fun hge => ?_
    rw [Array.getElem?_eq_none hge] at hk
    cases hk
theorem RCs.off {F T : Nat → Prop} {w w' : World} {A : Option Addr} {l : List (Bs × Option Nat)} (h : RCs w T A l) (ho : Off F w w') (hF : ∀ b, T b → kindAt w b = some (some TN) → ¬ F b) : RCs w' T A l := fun h0 => by
  obtain ⟨b, off, e, ht, hk, hc⟩ := h h0
  exact ⟨b, off, e, ht, (off_kind ho hk (hF b ht hk)), fun j hj => ⟨ho.cell (hc j hj).1 (hF b ht hk), ho.cell (hc j hj).2 (hF b ht hk)⟩⟩
theorem RD.off {F T : Nat → Prop} {X : Nat} {G : RLay} {r : R} {w w' : World} (H : RD T X G r w) (ho : Off F w w') (hF : ∀ b, T b → ¬ F b) : RD T X G r w' :=
  ⟨ho.blk H.disk (hF X H.tx), H.tx, own_off H.bods ho (fun b hb => hF b (H.tb b hb)), H.tb, own_off H.nams ho (fun b hb => hF b (H.tn b hb)), H.tn, own_off H.kept ho (fun b hb => hF b (H.tk b hb)), H.tk, H.chn, own_off H.chg ho (fun b hb => hF b (H.tc b hb)), H.tc, fun j hj => by
    obtain ⟨A, c, e, h⟩ := H.each j hj
    exact ⟨A, c, e, h.off ho (fun b hb _ => hF b hb)⟩⟩
theorem RCs.mono {T T' : Nat → Prop} {w : World} {A : Option Addr} {l : List (Bs × Option Nat)} (h : RCs w T A l) (hT : ∀ b, T b → T' b) : RCs w T' A l := fun h0 => by
  obtain ⟨b, off, e, ht, hk, hc⟩ := h h0
  exact ⟨b, off, e, hT b ht, hk, hc⟩
theorem RD.mono {T T' : Nat → Prop} {X : Nat} {G : RLay} {r : R} {w : World} (H : RD T X G r w) (hT : ∀ b, T b → T' b) : RD T' X G r w :=
  ⟨H.disk, hT X H.tx, H.bods, fun b h => hT b (H.tb b h), H.nams, fun b h => hT b (H.tn b h), H.kept, fun b h => hT b (H.tk b h), H.chn, H.chg, fun b h => hT b (H.tc b h), fun j hj => by
    obtain ⟨A, c, e, h⟩ := H.each j hj
    exact ⟨A, c, e, h.mono hT⟩⟩
/-- Of the disk's own block only what failure was told has turned. -/
theorem RD.told {T : Nat → Prop} {X : Nat} {G : RLay} {r r' : R} {w w' : World} (H : RD T X G r w) (ho : Off (fun b => b = X) w w') (h1 : r'.bodies = r.bodies) (h2 : r'.names = r.names) (h3 : r'.kept = r.kept) (h4 : r'.changes = r.changes) (hd : Blk X (.cells (rcells G r') TDk (0, 0)) w') : RD T X G r' w' := by
  have kx : kindAt w X = some (some TDk) := H.disk.kind
  have ne : ∀ {e : TypeId} {n size : Nat} {v : Value} {xs : List Value}, w.ownsRow 0 e size v n xs → e ≠ TDk → ∀ b, v.ownBlock = some b → b ≠ X := fun h he b hb e => ne_kind (row_kind h hb) kx (by intro e2; exact he (Option.some.inj e2)) e
  refine ⟨hd, H.tx, ?_, H.tb, ?_, H.tn, ?_, H.tk, by rw [h4]; exact H.chn, ?_, H.tc, ?_⟩
  · rw [h1]; exact own_off H.bods ho (ne H.bods (by decide))
  · rw [h2]; exact own_off H.nams ho (ne H.nams (by decide))
  · rw [h3]; exact own_off H.kept ho (ne H.kept (by decide))
  · rw [h4]; exact own_off H.chg ho (ne H.chg (by decide))
  · rw [h4]
    intro j hj
    obtain ⟨A, c, e, h⟩ := H.each j hj
    exact ⟨A, c, e, h.off ho (fun b _ hk => ne_kind hk kx (by decide))⟩
end Go.Proofs.YtbodkjifpmencaaGreat
namespace Go.Proofs.YtbodkjifpmencaaGreat
open Go.RowKit
open Go.Lib

theorem off_set (w : World) (X j : Nat) (v : Value) : Off (fun k => k = X) w (w.setCell ⟨X, j, none⟩ v) := (Off.of_grown (grown_set w X j v)).mono (fun _ h => (Option.some.inj h).symm)
set_option maxRecDepth 100000 in
set_option maxHeartbeats 1000000 in
theorem rcall_any {T : Nat → Prop} {X : Nat} {G : RLay} {r : R} {w : World} (H : RD T X G r w) (b : Bool) (h0 : 0 ≤ r.calls) (h1 : r.calls ≤ 9223372036854775807) :
    Calls Tryz.prog 58 #[.pointer (some ⟨X, 0, none⟩), .bool b] w fun e w' => e = .returned (.int .i64 (callR r b).1) ∧ RD T X G (callR r b).2 w' ∧ Off (fun k => k = X) w w' := by
  have HH := Lib.hid H
  have c5 : w.cell? ⟨X, 5, none⟩ = some (.bool r.fails) := H.disk.cell 5
  have c6 : w.cell? ⟨X, 6, none⟩ = some (.bool r.once) := H.disk.cell 6
  have c7 : w.cell? ⟨X, 7, none⟩ = some (.int .i64 r.calls) := H.disk.cell 7
  have fr : ∀ k, w.frozen? ⟨X, k, none⟩ = false := fun k => H.disk.free k
  clear H
  cases b with
  | false =>
    go_enter Tryz.func58, Tryz.ntmps58
    go_wp2
    go_ret
    exact ⟨rfl, HH.out, Off.refl _ _⟩
  | true =>
    obtain ⟨F, hF⟩ : ∃ F, r.fails = F := ⟨_, rfl⟩
    rw [hF] at c5
    cases F with
    | false =>
      have e : callR r true = (0, r) := by unfold callR; rw [hF]; rfl
      rw [e]
      go_enter Tryz.func58, Tryz.ntmps58
      go_wp2
      go_ret
      exact ⟨rfl, HH.out, Off.refl _ _⟩
    | true =>
      by_cases hc : 0 < r.calls
      · have e : callR r true = (0, { r with calls := r.calls - 1 }) := by unfold callR; rw [hF, if_pos rfl, if_pos rfl, if_pos hc]
        rw [e]
        go_enter Tryz.func58, Tryz.ntmps58
        go_wp2
        go_ret
        exact ⟨rfl, HH.out.told (off_set w X 7 _) rfl rfl rfl rfl (HH.out.disk.set 7 _), off_set w X 7 _⟩
      · have e : callR r true = (62, { r with fails := !r.once }) := by unfold callR; rw [hF, if_pos rfl, if_pos rfl, if_neg hc]
        rw [e]
        obtain ⟨O, hO⟩ : ∃ O, r.once = O := ⟨_, rfl⟩
        rw [hO] at c6
        cases O with
        | true =>
          go_enter Tryz.func58, Tryz.ntmps58
          go_wp2
          go_ret
          refine ⟨rfl, HH.out.told (off_set w X 5 _) rfl rfl rfl rfl ?_, off_set w X 5 _⟩
          have := HH.out.disk.set 5 (.bool false)
          unfold rcells at *
          rw [hO] at this
          exact this
        | false =>
          go_enter Tryz.func58, Tryz.ntmps58
          go_wp2
          go_ret
          refine ⟨rfl, HH.out.told (Off.refl _ _) rfl rfl rfl rfl ?_, Off.refl _ _⟩
          have := HH.out.disk
          unfold rcells at *
          rw [hF, hO] at this
          exact this
set_option maxRecDepth 100000 in
theorem rfail_any {T : Nat → Prop} {X : Nat} {G : RLay} {r : R} {w : World} (H : RD T X G r w) (calls : Int) (once : Bool) : Calls Tryz.prog 33 #[.pointer (some ⟨X, 0, none⟩), .int .i64 calls, .bool once] w fun e w' => e = .returned (.tuple #[]) ∧ RD T X G (failR r calls once) w' ∧ Off (fun k => k = X) w w' := by
  have HH := Lib.hid H
  have c5 : w.cell? ⟨X, 5, none⟩ = some (.bool r.fails) := H.disk.cell 5
  have c6 : w.cell? ⟨X, 6, none⟩ = some (.bool r.once) := H.disk.cell 6
  have c7 : w.cell? ⟨X, 7, none⟩ = some (.int .i64 r.calls) := H.disk.cell 7
  have fr : ∀ k, w.frozen? ⟨X, k, none⟩ = false := fun k => H.disk.free k
  clear H
  go_enter Tryz.func33, Tryz.ntmps33
  go_wp2
  go_end0
  have hd := ((HH.out.disk.set 5 (.bool true)).set 6 (.bool once)).set 7 (.int .i64 (max calls 0))
  have ho := ((off_set w X 5 (.bool true)).trans (off_set _ X 6 (.bool once)) (fun _ h => .inl h)).trans (off_set _ X 7 (.int .i64 (max calls 0))) (fun _ h => .inl h)
  refine ⟨rfl, HH.out.told ?_ rfl rfl rfl rfl ?_, ?_⟩
  · exact ho
  · exact hd
  · exact ho
end Go.Proofs.YtbodkjifpmencaaGreat
