/-
  The walk of the document's List, on any disk. No conditions.
-/
import Derived.Test.YtbodkjifpmencaaGreatY26
import Derived.Test.YtbodkjifpmencaaGreatY12
namespace Go.Proofs.YtbodkjifpmencaaGreat
open Go.RowKit
open Go.Lib

theorem bl_bool (a b : Bs) : Go.Op.bytesLess (bs a).toList (bs b).toList = decide (a < b) := by
  rw [Lib.toList_data, Lib.toList_data, bs_list, bs_list]
  exact Go.Proofs.bytesLess_eq a b
/-- A list with one more at a place. -/
def shiftL (l : List Bs) (k : Nat) (x : Bs) : List Bs := l.take k ++ x :: l.drop k
theorem shiftL_len (l : List Bs) (k : Nat) (x : Bs) : (shiftL l k x).length = l.length + 1 := by
  unfold shiftL
  simp only [List.length_append, List.length_cons, List.length_take, List.length_drop]
  omega
theorem shiftL_end (l : List Bs) (x : Bs) : shiftL l l.length x = l ++ [x] := by
  unfold shiftL
  rw [List.take_length, List.drop_length]
theorem shiftL_set (l : List Bs) (k : Nat) (hk : k ≤ l.length) (x y : Bs) : (shiftL l k x).set k y = shiftL l k y := by
  unfold shiftL
  rw [List.set_append_right _ _ (by rw [List.length_take]; omega)]
  have : k - (l.take k).length = 0 := by rw [List.length_take]; omega
  rw [this]
  rfl
theorem shiftL_prev (l : List Bs) (k : Nat) (hk : k < l.length) : shiftL l (k + 1) l[k] = shiftL l k l[k] := by
  unfold shiftL
  rw [List.take_succ_eq_append_getElem hk, List.append_assoc]
  congr 1
  show l[k] :: l[k] :: List.drop (k + 1) l = l[k] :: List.drop k l
  rw [List.drop_eq_getElem_cons hk]
theorem shiftL_at (l : List Bs) (k : Nat) (hk : k < l.length) (x : Bs) : (shiftL l (k + 1) x)[k]'(by rw [shiftL_len]; omega) = l[k] := by
  unfold shiftL
  rw [List.getElem_append_left (by rw [List.length_take]; omega), List.getElem_take]
theorem insR_at : ∀ (l : List Bs) (p : Bs) (k : Nat), k ≤ l.length → (∀ a (h : a < l.length), a < k → l[a] < p) → (∀ h : k < l.length, ¬ l[k] < p) → insR l p = shiftL l k p
  | [], p, k, hk, _, _ => by
    obtain rfl : k = 0 := by simpa using hk
    rfl
  | x :: xs, p, 0, _, _, h2 => by
    have := h2 (by simp)
    unfold insR
    rw [if_neg (by simpa using this)]
    rfl
  | x :: xs, p, k + 1, hk, h1, h2 => by
    have hx : x < p := h1 0 (by simp) (by omega)
    unfold insR
    rw [if_pos hx, insR_at xs p k (by simpa using hk) (fun a h ha => by have := h1 (a + 1) (by simpa using h) (by omega); simpa using this) (fun h => by have := h2 (by simpa using h); simpa using this)]
    rfl
theorem listRow_len (d : Bs) (out : List Bs) (x : Bs × Nat) : (listRow d out x).length ≤ out.length + 1 := by
  unfold listRow
  split
  · rw [(insR_perm out x.1).length_eq, List.length_cons]
    omega
  · omega
def listK (r : R) (d : Bs) (k : Nat) : List Bs := (r.names.take k).foldl (listRow d) []
theorem listK_succ (r : R) (d : Bs) (k : Nat) (h : k < r.names.length) : listK r d (k + 1) = listRow d (listK r d k) r.names[k] := foldl_take _ _ _ _ h
theorem listK_len (r : R) (d : Bs) : ∀ k, k ≤ r.names.length → (listK r d k).length ≤ k
  | 0, _ => Nat.le_refl _
  | k + 1, h => by
    rw [listK_succ r d k (by omega)]
    have := listK_len r d k (by omega)
    have := listRow_len d (listK r d k) r.names[k]
    omega
/-- A row of texts. -/
def OwnX (w : World) (base : Nat) (v : Value) (l : List Bs) : Prop := w.ownsRow base 9 1 v l.length (l.map encStr)
theorem OwnX.cell {w : World} {base g n c : Nat} {l : List Bs} (h : OwnX w base (.slice (some ⟨g, 0, none⟩) n c) l) {j : Nat} (hj : j < l.length) : w.cell? ⟨g, j, none⟩ = some (.string (bs l[j])) := by
  have := World.ownsRow.cells h (g := g) rfl j (encStr l[j]) (by rw [List.getElem?_map, List.getElem?_eq_getElem hj]; rfl)
  rwa [Addr.add_mid, Nat.zero_add] at this
theorem OwnX.blk {w : World} {base n c : Nat} {A : Option Addr} {l : List Bs} (h : OwnX w base (.slice A n c) l) (hl : 0 < l.length) : ∃ g, A = some ⟨g, 0, none⟩ := by
  rcases h.2 with ⟨_, hn⟩ | ⟨g, cap, cur, e, _⟩
  · exact absurd hl (by rw [hn]; exact Nat.lt_irrefl _)
  · cases e
    exact ⟨g, rfl⟩
theorem OwnX.set {w : World} {base g n c : Nat} {l : List Bs} (h : OwnX w base (.slice (some ⟨g, 0, none⟩) n c) l) (hn : l.length = n) (j : Nat) (x : Bs) : OwnX (w.setCell ⟨g, j, none⟩ (.string (bs x))) base (.slice (some ⟨g, 0, none⟩) n c) (l.set j x) ∧ w.grownBy (w.setCell ⟨g, j, none⟩ (.string (bs x))) (some g) := by
  subst hn
  obtain ⟨h1, h2⟩ := World.ownsRow.stored h j (.string (bs x))
  refine ⟨?_, h2⟩
  unfold OwnX
  rw [List.length_set, List.map_set]
  exact h1
theorem OwnX.below {w w' : World} {base : Nat} {v : Value} {l : List Bs} (h : OwnX w base v l) (hb : Below w.heap.size w w') : OwnX w' base v l := own_off h (Off.of_below hb) (fun _ _ h => h)
theorem own_ge {w : World} {base size n m c g : Nat} {e : TypeId} {xs : List Value} (h : w.ownsRow base e size (.slice (some ⟨g, 0, none⟩) m c) n xs) : base ≤ g ∧ g < w.heap.size := World.ownsRow.lt h g rfl
set_option maxRecDepth 100000 in
set_option maxHeartbeats 8000000 in
theorem rlist_any {T : Nat → Prop} {X : Nat} {G : RLay} {r : R} {w : World} (H : RD T X G r w) (hN : r.names.length ≤ 1000000) (hp : ∀ x ∈ r.names, x.1.length ≤ 1000) (d : Bs) :
    Calls Tryz.prog 17 #[.pointer (some ⟨X, 0, none⟩), .string (bs d)] w fun e w' => ∃ v, e = .returned v ∧ w'.ownsRow w.heap.size 9 1 v (listR r d).length ((listR r d).map encStr) ∧ Below w.heap.size w w' := by
  obtain ⟨i0, hi, hz0, hz1, hz2⟩ := info_parts Tryz.infoStr
  obtain ⟨An, cn, hn1, hn2⟩ := H.names
  have c2 : w.cell? ⟨X, 2, none⟩ = some G.nv := H.disk.cell 2
  rw [hn1] at c2
  obtain ⟨n, hn⟩ : ∃ n, r.names.length = n := ⟨_, rfl⟩
  rw [hn] at c2 hN
  have HNm := Lib.hid hn2
  have HN := Lib.hid hn
  have HP := Lib.hid hp
  clear hn1 hn2 hn H hp
  go_enter Tryz.func17, Tryz.ntmps17
  go_wp2
  go_loopw [5, 15] (fun v i wr => ∃ (k nO : Nat), k ≤ n ∧ nO ≤ k ∧ i = .int .i64 k ∧ (∃ vA vc, v = .slice vA nO vc) ∧ Below w.heap.size w wr ∧ Hid ((listK r d k).length = nO) ∧ Hid (OwnX wr w.heap.size v (listK r d k))) (fun _ i _ => n - (RowKit.intOf i).toNat)
  case atStart => exact ⟨0, 0, Nat.zero_le _, Nat.le_refl _, rfl, ⟨_, _, rfl⟩, Below.refl _ _, Lib.hid rfl, Lib.hid (World.ownsRow_nil _ _ _ _)⟩
  case round =>
    obtain ⟨k, nO, hk, hnO, rfl, ⟨vA, vc, rfl⟩, hb, HLN, HROW⟩ := hrel
    by_cases hlt : k < n
    · have hkl : k < r.names.length := by rw [HN.out]; exact hlt
      obtain ⟨b, off, hAe, hbl, hc⟩ := (HNm.out.below hb) (by rw [HN.out]; omega)
      obtain ⟨c0, c1⟩ := hc k hkl
      obtain ⟨F, hF⟩ : ∃ F, r.names[k].1 = F := ⟨_, rfl⟩
      obtain ⟨z, hz⟩ : ∃ z, ((r.names[k].2 : Nat) : Int) = z := ⟨_, rfl⟩
      have hFl : F.length ≤ 1000 := by rw [← hF]; exact HP.out _ (List.getElem_mem _)
      rw [hF] at c0
      rw [hz] at c1
      subst hAe
      have hls := listK_succ r d k hkl
      have HF := Lib.hid hF
      have hsz := hb.size
      obtain ⟨out, hout⟩ : ∃ l, listK r d k = l := ⟨_, rfl⟩
      rw [hout] at HLN HROW hls
      obtain ⟨DF, hDF⟩ : ∃ x, bs (dirL F) = x := ⟨_, rfl⟩
      have HDI : Hid (∀ W, Calls Tryz.prog 41 #[.string (bs F)] W fun e w' => e = .returned (.string DF) ∧ Below W.heap.size W w') := Lib.hid (fun W => by
        have := rdir_any (bs F) W (by rw [bs_size]; omega)
        rw [bs_list, split_dir, hDF] at this
        exact this)
      have heq : (DF.toList == (bs d).toList) = (dirL F == d) := by rw [← hDF]; exact eqB_bool _ _
      have hba := (Below.refl wr.heap.size wr).alloc (Nat.le_refl _) (.cells #[.string (bs F), .int .i64 z] TN)
      have z0 : (wr.alloc (.cells #[.string (bs F), .int .i64 z] TN)).cell? ⟨wr.heap.size, 0, none⟩ = some (.string (bs F)) := (Blk.new (.cells #[.string (bs F), .int .i64 z] TN (0, 0)) wr).cell 0
      obtain ⟨wa, hwa⟩ : ∃ W, wr.alloc (.cells #[.string (bs F), .int .i64 z] TN) = W := ⟨_, rfl⟩
      have hws : wa.heap.size = wr.heap.size + 1 := by rw [← hwa]; simp
      rw [hwa] at hba z0
      have HWA := Lib.hid hwa
      have HBA := Lib.hid (show Below w.heap.size w wa from hb.trans (Below.mono hba hsz))
      have HROWA := Lib.hid (HROW.out.below hba)
      have HVB : Hid (∀ x, (Value.slice vA nO vc).ownBlock = some x → w.heap.size ≤ x ∧ x < wr.heap.size) := Lib.hid (fun x hx => World.ownsRow.lt HROW.out x hx)
      obtain ⟨B, hB⟩ : ∃ B, wr.heap.size = B := ⟨_, rfl⟩
      clear hc hF hz hDF hb hba HROW hwa
      obtain ⟨dd, hdd⟩ : ∃ b, (dirL F == d) = b := ⟨_, rfl⟩
      rw [hdd] at heq
      cases dd
      · have hls2 : listK r d (k + 1) = out := by rw [hls]; unfold listRow; rw [HF.out, if_neg (by simpa using hdd)]
        have HLS := Lib.hid hls2
        clear hls hls2 hdd hB
        go_wp2_with (go_at_call 41; (with_reducible refine (HDI.out _).mono ?_); rintro e w3 ⟨rfl, b3⟩)
        rw [HWA.out] at b3
        have hwl := HBA.out.size
        exact ⟨⟨k + 1, nO, by omega, by omega, rfl, ⟨_, _, rfl⟩, HBA.out.trans (Below.mono b3 hwl), Lib.hid (by rw [HLS.out]; exact HLN.out), Lib.hid (by rw [HLS.out]; exact HROWA.out.below b3)⟩, by show n - ((k : Int) + 1).toNat < n - (k : Int).toNat; omega⟩
      · have hls2 : listK r d (k + 1) = insR out F := by rw [hls]; unfold listRow; rw [HF.out, if_pos (by simpa using hdd)]
        have HLS := Lib.hid hls2
        clear hls hls2 hdd
        go_wp2_with (go_at_call 41; (with_reducible refine (HDI.out _).mono ?_); rintro e w3 ⟨rfl, b3⟩)
        rw [HWA.out] at b3
        have hwl := HBA.out.size
        have hb3 := HBA.out.trans (Below.mono b3 hwl)
        have HROW3 := Lib.hid (HROWA.out.below b3)
        have hB3 : B < w3.heap.size := by have := b3.size; omega
        rw [hB] at z0 HVB
        have z3 : w3.cell? ⟨B, 0, none⟩ = some (.string (bs F)) := (b3.cell (p := ⟨B, 0, none⟩) (by show B < wa.heap.size; omega)).trans z0
        have hBw : w.heap.size ≤ B := by omega
        clear HBA HROWA HWA z0 b3 hwl hws hB c0 c1 hsz HNm
        go_loopw [8] (fun i wr => ∃ j : Nat, j ≤ nO ∧ i = .int .i64 j ∧ Below w3.heap.size w3 wr ∧ Hid (∀ a (h : a < out.length), a < j → out[a] < F)) (fun i _ => nO - (RowKit.intOf i).toNat)
        case atStart => exact ⟨0, Nat.zero_le _, rfl, Below.refl _ _, Lib.hid (fun a _ h => absurd h (Nat.not_lt_zero _))⟩
        case round =>
          obtain ⟨j, hj, rfl, hbi, HI⟩ := hrel
          have zi := (hbi.cell (p := ⟨B, 0, none⟩) hB3).trans z3
          have HROWI := Lib.hid (HROW3.out.below hbi)
          have hbw := hb3.trans (Below.mono hbi hb3.size)
          obtain ⟨V0, hV0⟩ : ∃ V0, V0 = wr := ⟨_, rfl⟩
          subst hV0
          by_cases hjn : j < nO
          · have hjl : j < out.length := by rw [HLN.out]; exact hjn
            obtain ⟨g, rfl⟩ := HROWI.out.blk (by omega)
            have gj := HROWI.out.cell hjl
            obtain ⟨Y, hY⟩ : ∃ y, out[j] = y := ⟨_, rfl⟩
            rw [hY] at gj
            have hbl := bl_bool Y F
            obtain ⟨bb, hbb⟩ : ∃ b, decide (Y < F) = b := ⟨_, rfl⟩
            rw [hbb] at hbl
            have i0' : (0 : Int) ≤ (j : Int) := by omega
            have i1' : (j : Int) < (nO : Int) := by omega
            have hdk : decide ((j : Int) < (nO : Int)) = true := decide_eq_true i1'
            cases bb
            · have HINS := Lib.hid (insR_at out F j (Nat.le_of_lt hjl) HI.out (fun h => by rw [hY]; exact of_decide_eq_false hbb))
              clear hY hbb
              go_wp2
              go_quiet (fail)
              obtain ⟨Z, hZ⟩ : ∃ Z, Z = V0.drewN nq := ⟨_, rfl⟩
              have hbz : Below V0.heap.size V0 Z := by rw [hZ]; exact below_drewN (Below.refl _ _) _
              have zz : Z.cell? ⟨B, 0, none⟩ = some (.string (bs F)) := by rw [hZ]; exact zi
              have hBz : B < Z.heap.size := Nat.lt_of_lt_of_le hB3 (Nat.le_trans hbi.size hbz.size)
              have HBZ := Lib.hid (hbw.trans (Below.mono hbz hbw.size))
              have HRZ := Lib.hid (HROWI.out.below hbz)
              rw [← hZ]
              have hbza := (Below.refl Z.heap.size Z).alloc (Nat.le_refl _) (.cells #[.string ⟨#[]⟩] 9)
              have HRZA := Lib.hid (HRZ.out.below hbza)
              have HRZA := Lib.hid (show World.ownsRow _ _ _ _ _ nO (out.map encStr) by have := HRZA.out; unfold OwnX at this; rw [HLN.out] at this; exact this)
              have HBZA := Lib.hid (HBZ.out.trans (Below.mono hbza HBZ.out.size))
              have hza : (Z.alloc (.cells #[.string ⟨#[]⟩] 9)).cell? ⟨B, 0, none⟩ = some (.string (bs F)) := (hbza.cell (p := ⟨B, 0, none⟩) hBz).trans zz
              have hZs : w.heap.size ≤ (Z.alloc (.cells #[.string ⟨#[]⟩] 9)).heap.size := HBZA.out.size
              have HZA := Lib.hid hza
              clear zz hza hbza hbz hZ zi hbw gj hbl i0' i1' hdk
              go_wp2_with (at_builtin; refine wpList_append_own_at _ rfl _ _ 42 rfl w.heap.size 9 i0 (.string ⟨#[]⟩) 1 16 Tryz.underlying42 hi hz0 hz1 hz2 rfl (by decide) (.slice (some ⟨g, 0, none⟩) nO vc) nO (out.map encStr) rfl HRZA.out ⟨Z.heap.size, 0, none⟩ 1 1 [.string ⟨#[]⟩] rfl rfl (fun j u hj => by rw [Addr.add_mid, Nat.zero_add, (Blk.new _ _).cell]; simpa using hj) (fun u hu => by simp at hu; rw [hu]; rfl) (by unfold maxLen; omega) (by omega) hZs ?_; intro v' w6 hown' hg6 _ hloc
                           obtain ⟨A6, c6, hv6⟩ := own_len hown'
                           obtain ⟨n6, hn6⟩ : ∃ m, nO + 1 = m := ⟨_, rfl⟩
                           rw [hn6] at hv6
                           subst hv6)
              have hX6 : OwnX w6 w.heap.size (.slice A6 n6 c6) (shiftL out nO []) := by
                have e : shiftL out nO [] = out ++ [[]] := by rw [← HLN.out]; exact shiftL_end out []
                unfold OwnX
                rw [e, List.length_append, List.map_append, HLN.out]
                exact hown'
              obtain ⟨g6, rfl⟩ := hX6.blk (by rw [shiftL_len]; omega)
              have hz6 : w6.cell? ⟨B, 0, none⟩ = some (.string (bs F)) := (Off.of_grown hg6).cell HZA.out (fun h => by have := (HVB.out _ h).2; omega)
              have hb6 : Below w.heap.size w w6 := HBZA.out.grown hg6 HBZA.out.size (fun j hj => (HVB.out j hj).1)
              have hgB : g6 ≠ B := by
                rcases hloc with h | h
                · intro e
                  have := (HVB.out g6 h.symm).2
                  omega
                · have := Option.some.inj h
                  have h2 : (Z.alloc (.cells #[.string ⟨#[]⟩] 9)).heap.size = Z.heap.size + 1 := by simp
                  dsimp only at this
                  omega
              have HX6 := Lib.hid hX6
              have hwl : IntKind.i64.wrap ((n6 : Int) - 1) = (nO : Int) := (IntWalk.i64_in _ (by omega)).trans (by omega)
              have HLO : Hid (out.length = nO) := Lib.hid HLN.out
              clear hown' hg6 hloc hX6 HZA HBZA HRZA HRZ HBZ hZs hBz HVB
              go_loopw [9] (fun i wr => ∃ m : Nat, j ≤ m ∧ m ≤ nO ∧ i = .int .i64 m ∧ Below w.heap.size w wr ∧ wr.cell? ⟨B, 0, none⟩ = some (.string (bs F)) ∧ ∃ x, Hid (OwnX wr w.heap.size (.slice (some ⟨g6, 0, none⟩) n6 c6) (shiftL out m x))) (fun i _ => (RowKit.intOf i).toNat)
              case atStart => exact ⟨nO, hj, Nat.le_refl _, by rw [show ((n6 : Int) - 1) = (nO : Int) by omega], hb6, hz6, _, HX6⟩
              case round =>
                obtain ⟨m, hjm, hmn, rfl, hbm, zm, x, HXM⟩ := hrel
                have hlx : (shiftL out m x).length = n6 := by rw [shiftL_len, HLO.out]; exact hn6
                have fz : ∀ a, wr.frozen? ⟨g6, a, none⟩ = false := fun a => own_free HXM.out a
                have hge := own_ge HXM.out
                by_cases hjm2 : j < m
                · obtain ⟨m1, rfl⟩ : ∃ m1, m = m1 + 1 := ⟨m - 1, by omega⟩
                  have hm1 : m1 < out.length := by rw [HLO.out]; omega
                  have gm := HXM.out.cell (j := m1) (by rw [shiftL_len]; omega)
                  have gm1 := HXM.out.cell (j := m1 + 1) (by rw [shiftL_len, HLO.out]; omega)
                  rw [shiftL_at out m1 hm1 x] at gm
                  obtain ⟨Y, hY⟩ : ∃ y, out[m1] = y := ⟨_, rfl⟩
                  rw [hY] at gm
                  obtain ⟨q1, hq1⟩ : ∃ q, (shiftL out (m1 + 1) x)[m1 + 1]'(by rw [shiftL_len, HLO.out]; omega) = q := ⟨_, rfl⟩
                  rw [hq1] at gm1
                  have hst := HXM.out.set hlx (m1 + 1) Y
                  have e2 : (shiftL out (m1 + 1) x).set (m1 + 1) Y = shiftL out m1 Y := by rw [shiftL_set out (m1 + 1) (by omega), ← hY, shiftL_prev out m1 hm1]
                  rw [e2] at hst
                  have HST := Lib.hid hst
                  have hzs := (Off.of_grown hst.2).cell zm (fun h => hgB (Option.some.inj h))
                  have hbs : Below w.heap.size w (wr.setCell ⟨g6, m1 + 1, none⟩ (.string (bs Y))) := hbm.grown hst.2 hbm.size (fun a ha => by have := Option.some.inj ha; omega)
                  have HZS := Lib.hid hzs
                  have HBS := Lib.hid hbs
                  have hw1 : IntKind.i64.wrap (((m1 + 1 : Nat) : Int) - 1) = (m1 : Int) := (IntWalk.i64_in _ (by omega)).trans (by omega)
                  have i0' : (0 : Int) ≤ (m1 : Int) := by omega
                  have i1' : (m1 : Int) < (n6 : Int) := by omega
                  have i2' : ((m1 + 1 : Nat) : Int) < (n6 : Int) := by omega
                  have i3' : (0 : Int) ≤ ((m1 + 1 : Nat) : Int) := by omega
                  have hgt : decide ((j : Int) < ((m1 + 1 : Nat) : Int)) = true := decide_eq_true (by omega)
                  clear hst hzs hbs e2 hY hq1 hlx hwl
                  go_wp2
                  exact ⟨⟨m1, by omega, by omega, rfl, HBS.out, HZS.out, Y, Lib.hid HST.out.1⟩, by show (m1 : Int).toNat < (((m1 + 1 : Nat) : Int)).toNat; omega⟩
                · obtain rfl : j = m := by omega
                  have gm := HXM.out.cell (j := j) (by rw [shiftL_len, HLO.out]; omega)
                  obtain ⟨q1, hq1⟩ : ∃ q, (shiftL out j x)[j]'(by rw [shiftL_len, HLO.out]; omega) = q := ⟨_, rfl⟩
                  rw [hq1] at gm
                  have hst := HXM.out.set hlx j F
                  rw [shiftL_set out j (by rw [HLO.out]; exact hmn), ← HINS.out] at hst
                  have HST := Lib.hid hst
                  have HBS : Hid (Below w.heap.size w (wr.setCell ⟨g6, j, none⟩ (.string (bs F)))) := Lib.hid (hbm.grown hst.2 hbm.size (fun a ha => by have := Option.some.inj ha; omega))
                  have i0' : (0 : Int) ≤ (j : Int) := by omega
                  have i1' : (j : Int) < (n6 : Int) := by omega
                  have hgt : decide ((j : Int) < (j : Int)) = false := decide_eq_false (by omega)
                  have HLE : Hid ((insR out F).length = n6) := Lib.hid (by rw [(insR_perm out F).length_eq, List.length_cons, HLO.out]; exact hn6)
                  clear hst hq1 hlx hwl
                  go_wp2
                  exact ⟨⟨k + 1, n6, by omega, by omega, rfl, ⟨_, _, rfl⟩, HBS.out, Lib.hid (by rw [HLS.out]; exact HLE.out), Lib.hid (by rw [HLS.out]; exact HST.out.1)⟩, by show n - ((k : Int) + 1).toNat < n - (k : Int).toNat; omega⟩
            · have HI2 : Hid (∀ a (h : a < out.length), a < j + 1 → out[a] < F) := Lib.hid (fun a h ha => by
                by_cases haj : a = j
                · subst haj
                  rw [hY]
                  exact of_decide_eq_true hbb
                · exact HI.out a h (by omega))
              clear hY hbb
              go_wp2
              go_quiet (fail)
              go_wp2
              exact ⟨⟨j + 1, by omega, rfl, below_drewN hbi _, HI2⟩, by show nO - ((j : Int) + 1).toNat < nO - (j : Int).toNat; omega⟩
          · obtain rfl : j = nO := by omega
            have HINS := Lib.hid (insR_at out F j (by rw [HLN.out]; exact Nat.le_refl _) HI.out (fun h => absurd h (by rw [HLN.out]; exact Nat.lt_irrefl _)))
            have hdk : decide ((j : Int) < (j : Int)) = false := decide_eq_false (by omega)
            go_wp2
            go_quiet (fail)
            obtain ⟨Z, hZ⟩ : ∃ Z, Z = V0.drewN nq := ⟨_, rfl⟩
            have hbz : Below V0.heap.size V0 Z := by rw [hZ]; exact below_drewN (Below.refl _ _) _
            have zz : Z.cell? ⟨B, 0, none⟩ = some (.string (bs F)) := by rw [hZ]; exact zi
            have hBz : B < Z.heap.size := Nat.lt_of_lt_of_le hB3 (Nat.le_trans hbi.size hbz.size)
            have HBZ := Lib.hid (hbw.trans (Below.mono hbz hbw.size))
            have HRZ := Lib.hid (HROWI.out.below hbz)
            rw [← hZ]
            have hbza := (Below.refl Z.heap.size Z).alloc (Nat.le_refl _) (.cells #[.string ⟨#[]⟩] 9)
            have HRZA := Lib.hid (HRZ.out.below hbza)
            have HRZA := Lib.hid (show World.ownsRow _ _ _ _ _ j (out.map encStr) by have := HRZA.out; unfold OwnX at this; rw [HLN.out] at this; exact this)
            have HBZA := Lib.hid (HBZ.out.trans (Below.mono hbza HBZ.out.size))
            have hza : (Z.alloc (.cells #[.string ⟨#[]⟩] 9)).cell? ⟨B, 0, none⟩ = some (.string (bs F)) := (hbza.cell (p := ⟨B, 0, none⟩) hBz).trans zz
            have hZs : w.heap.size ≤ (Z.alloc (.cells #[.string ⟨#[]⟩] 9)).heap.size := HBZA.out.size
            have HZA := Lib.hid hza
            clear zz hza hbza hbz hZ zi hbw hdk
            go_wp2_with (at_builtin; refine wpList_append_own_at _ rfl _ _ 42 rfl w.heap.size 9 i0 (.string ⟨#[]⟩) 1 16 Tryz.underlying42 hi hz0 hz1 hz2 rfl (by decide) (.slice vA j vc) j (out.map encStr) rfl HRZA.out ⟨Z.heap.size, 0, none⟩ 1 1 [.string ⟨#[]⟩] rfl rfl (fun j u hj => by rw [Addr.add_mid, Nat.zero_add, (Blk.new _ _).cell]; simpa using hj) (fun u hu => by simp at hu; rw [hu]; rfl) (by unfold maxLen; omega) (by omega) hZs ?_; intro v' w6 hown' hg6 _ hloc
                         obtain ⟨A6, c6, hv6⟩ := own_len hown'
                         obtain ⟨n6, hn6⟩ : ∃ m, j + 1 = m := ⟨_, rfl⟩
                         rw [hn6] at hv6
                         subst hv6)
            have hX6 : OwnX w6 w.heap.size (.slice A6 n6 c6) (shiftL out j []) := by
              have e : shiftL out j [] = out ++ [[]] := by rw [← HLN.out]; exact shiftL_end out []
              unfold OwnX
              rw [e, List.length_append, List.map_append, HLN.out]
              exact hown'
            obtain ⟨g6, rfl⟩ := hX6.blk (by rw [shiftL_len]; omega)
            have hz6 : w6.cell? ⟨B, 0, none⟩ = some (.string (bs F)) := (Off.of_grown hg6).cell HZA.out (fun h => by have := (HVB.out _ h).2; omega)
            have hb6 : Below w.heap.size w w6 := HBZA.out.grown hg6 HBZA.out.size (fun j hj => (HVB.out j hj).1)
            have hgB : g6 ≠ B := by
              rcases hloc with h | h
              · intro e
                have := (HVB.out g6 h.symm).2
                omega
              · have := Option.some.inj h
                have h2 : (Z.alloc (.cells #[.string ⟨#[]⟩] 9)).heap.size = Z.heap.size + 1 := by simp
                dsimp only at this
                omega
            have HX6 := Lib.hid hX6
            have hwl : IntKind.i64.wrap ((n6 : Int) - 1) = (j : Int) := (IntWalk.i64_in _ (by omega)).trans (by omega)
            have HLO : Hid (out.length = j) := Lib.hid HLN.out
            clear hown' hg6 hloc hX6 HZA HBZA HRZA HRZ HBZ hZs hBz HVB
            go_loopw [9] (fun i wr => ∃ m : Nat, j ≤ m ∧ m ≤ j ∧ i = .int .i64 m ∧ Below w.heap.size w wr ∧ wr.cell? ⟨B, 0, none⟩ = some (.string (bs F)) ∧ ∃ x, Hid (OwnX wr w.heap.size (.slice (some ⟨g6, 0, none⟩) n6 c6) (shiftL out m x))) (fun i _ => (RowKit.intOf i).toNat)
            case atStart => exact ⟨j, Nat.le_refl _, Nat.le_refl _, by rw [show ((n6 : Int) - 1) = (j : Int) by omega], hb6, hz6, _, HX6⟩
            case round =>
              obtain ⟨m, hjm, hmn, rfl, hbm, zm, x, HXM⟩ := hrel
              have hlx : (shiftL out m x).length = n6 := by rw [shiftL_len, HLO.out]; exact hn6
              have fz : ∀ a, wr.frozen? ⟨g6, a, none⟩ = false := fun a => own_free HXM.out a
              have hge := own_ge HXM.out
              by_cases hjm2 : j < m
              · exfalso; omega
              · obtain rfl : j = m := by omega
                have gm := HXM.out.cell (j := j) (by rw [shiftL_len, HLO.out]; omega)
                obtain ⟨q1, hq1⟩ : ∃ q, (shiftL out j x)[j]'(by rw [shiftL_len, HLO.out]; omega) = q := ⟨_, rfl⟩
                rw [hq1] at gm
                have hst := HXM.out.set hlx j F
                rw [shiftL_set out j (by rw [HLO.out]; exact hmn), ← HINS.out] at hst
                have HST := Lib.hid hst
                have HBS : Hid (Below w.heap.size w (wr.setCell ⟨g6, j, none⟩ (.string (bs F)))) := Lib.hid (hbm.grown hst.2 hbm.size (fun a ha => by have := Option.some.inj ha; omega))
                have i0' : (0 : Int) ≤ (j : Int) := by omega
                have i1' : (j : Int) < (n6 : Int) := by omega
                have hgt : decide ((j : Int) < (j : Int)) = false := decide_eq_false (by omega)
                have HLE : Hid ((insR out F).length = n6) := Lib.hid (by rw [(insR_perm out F).length_eq, List.length_cons, HLO.out]; exact hn6)
                clear hst hq1 hlx hwl
                go_wp2
                exact ⟨⟨k + 1, n6, by omega, by omega, rfl, ⟨_, _, rfl⟩, HBS.out, Lib.hid (by rw [HLS.out]; exact HLE.out), Lib.hid (by rw [HLS.out]; exact HST.out.1)⟩, by show n - ((k : Int) + 1).toNat < n - (k : Int).toNat; omega⟩
    · obtain rfl : k = n := by omega
      go_wp2
      go_ret
      have e : listK r d k = listR r d := by unfold listK listR; rw [List.take_of_length_le (by rw [HN.out]; exact Nat.le_refl _)]
      rw [← e]
      exact ⟨_, rfl, HROW.out, hb⟩
end Go.Proofs.YtbodkjifpmencaaGreat
