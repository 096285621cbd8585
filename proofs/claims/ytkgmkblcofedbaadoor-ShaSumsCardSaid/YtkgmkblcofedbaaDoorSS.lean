/-
  The walk of the program's Sum. Conditions: parts of at most 2^60 bytes together.
-/
import Derived.Test.YtkgmkblcofedbaaDoorSY
namespace Go.Proofs.YtkgmkblcofedbaaDoor
open Go.RowKit Go.Shelf
open Go.Lib
attribute [local go_sem] Oper.semAt_some

theorem zb_at (n : Nat) : ∀ i, i < n → (List.replicate n (Value.int .u8 0)).toArray[i]? = some (bf [] i) := by
  intro i hi
  have : bf [] i = .int .u8 0 := rfl
  rw [this]
  simp [hi]
theorem zb64_at : ∀ i, i < 64 → (#[.int .u8 0, .int .u8 0, .int .u8 0, .int .u8 0, .int .u8 0, .int .u8 0, .int .u8 0, .int .u8 0, .int .u8 0, .int .u8 0, .int .u8 0, .int .u8 0, .int .u8 0, .int .u8 0, .int .u8 0, .int .u8 0, .int .u8 0, .int .u8 0, .int .u8 0, .int .u8 0, .int .u8 0, .int .u8 0, .int .u8 0, .int .u8 0, .int .u8 0, .int .u8 0, .int .u8 0, .int .u8 0, .int .u8 0, .int .u8 0, .int .u8 0, .int .u8 0, .int .u8 0, .int .u8 0, .int .u8 0, .int .u8 0, .int .u8 0, .int .u8 0, .int .u8 0, .int .u8 0, .int .u8 0, .int .u8 0, .int .u8 0, .int .u8 0, .int .u8 0, .int .u8 0, .int .u8 0, .int .u8 0, .int .u8 0, .int .u8 0, .int .u8 0, .int .u8 0, .int .u8 0, .int .u8 0, .int .u8 0, .int .u8 0, .int .u8 0, .int .u8 0, .int .u8 0, .int .u8 0, .int .u8 0, .int .u8 0, .int .u8 0, .int .u8 0] : Array Value)[i]? = some (bf [] i) := zb_at 64
theorem zb32_at : ∀ i, i < 32 → (#[.int .u8 0, .int .u8 0, .int .u8 0, .int .u8 0, .int .u8 0, .int .u8 0, .int .u8 0, .int .u8 0, .int .u8 0, .int .u8 0, .int .u8 0, .int .u8 0, .int .u8 0, .int .u8 0, .int .u8 0, .int .u8 0, .int .u8 0, .int .u8 0, .int .u8 0, .int .u8 0, .int .u8 0, .int .u8 0, .int .u8 0, .int .u8 0, .int .u8 0, .int .u8 0, .int .u8 0, .int .u8 0, .int .u8 0, .int .u8 0, .int .u8 0, .int .u8 0] : Array Value)[i]? = some (bf [] i) := zb_at 32
def folds (pre : List (List UInt8)) : St := pre.foldl (comp K0) H0
theorem folds_snoc (pre : List (List UInt8)) (x : List UInt8) : folds (pre ++ [x]) = comp K0 (folds pre) x := by simp [folds]
set_option maxRecDepth 100000 in
set_option maxHeartbeats 4000000 in
theorem sum_in (n : Nat) (hn : 9 ≤ n) (A : Option Addr) (c : Nat) (ps : List (List UInt8)) (htot : ps.flatten.length < 2 ^ 60) (hps : ps.length ≤ 2 ^ 47) (W : World) (hE : Env W) (hPS : PS (fun _ => False) W A ps) :
    CallsIn Fence.wide n Tryd.prog 8 #[.slice A ps.length c] W fun e w' => e = .returned (.agg (cellsB (sumP ps.flatten)).toArray) ∧ Below W.heap.size W w' := by
  have h1' : 1 ≤ n := by omega
  obtain ⟨w1, hw1⟩ : ∃ w1, W.alloc (.cells #[.int .u8 0, .int .u8 0, .int .u8 0, .int .u8 0, .int .u8 0, .int .u8 0, .int .u8 0, .int .u8 0, .int .u8 0, .int .u8 0, .int .u8 0, .int .u8 0, .int .u8 0, .int .u8 0, .int .u8 0, .int .u8 0, .int .u8 0, .int .u8 0, .int .u8 0, .int .u8 0, .int .u8 0, .int .u8 0, .int .u8 0, .int .u8 0, .int .u8 0, .int .u8 0, .int .u8 0, .int .u8 0, .int .u8 0, .int .u8 0, .int .u8 0, .int .u8 0] 26) = w1 := ⟨_, rfl⟩
  obtain ⟨w2, hw2⟩ : ∃ w2, w1.alloc (.cells #[.int .u32 0, .int .u32 0, .int .u32 0, .int .u32 0, .int .u32 0, .int .u32 0, .int .u32 0, .int .u32 0] 41) = w2 := ⟨_, rfl⟩
  have r1 := World.rowIs_alloc W #[.int .u8 0, .int .u8 0, .int .u8 0, .int .u8 0, .int .u8 0, .int .u8 0, .int .u8 0, .int .u8 0, .int .u8 0, .int .u8 0, .int .u8 0, .int .u8 0, .int .u8 0, .int .u8 0, .int .u8 0, .int .u8 0, .int .u8 0, .int .u8 0, .int .u8 0, .int .u8 0, .int .u8 0, .int .u8 0, .int .u8 0, .int .u8 0, .int .u8 0, .int .u8 0, .int .u8 0, .int .u8 0, .int .u8 0, .int .u8 0, .int .u8 0, .int .u8 0] 26 (bf []) (fun i hi => zb_at 32 i hi)
  have r2 := World.rowIs_alloc w1 #[.int .u32 0, .int .u32 0, .int .u32 0, .int .u32 0, .int .u32 0, .int .u32 0, .int .u32 0, .int .u32 0] 41 (wf []) (fun i hi => zw8_at i hi)
  have s1 : w1.heap.size = W.heap.size + 1 := by rw [← hw1]; simp
  have s2 : w2.heap.size = W.heap.size + 2 := by rw [← hw2]; simp [s1]
  have hb1 : Below W.heap.size W w1 := by rw [← hw1]; exact (Below.refl _ _).alloc (Nat.le_refl _) _
  have hb2 : Below W.heap.size W w2 := by rw [← hw2]; exact hb1.alloc hb1.size _
  rw [hw1] at r1
  rw [hw2, s1] at r2
  have q1 : w2.rowIs W.heap.size 26 32 (bf []) := by rw [← hw2]; exact r1.alloc _
  have hrg : w1.rangeAt 0 0 (cellsW (lstOf H0)) := fun j v hv => by
    have hj : j < 8 := by have := (List.getElem?_eq_some_iff.1 hv).1; rwa [cellsW_length] at this
    rw [Nat.zero_add, (hE.after hb1).bc j hj, ← cellsW_at _ j (by rw [lst_len]; exact hj), hv]
  obtain ⟨h0, hh0⟩ : ∃ q, lstOf H0 = q := ⟨_, rfl⟩
  have hl0 : h0.length = 8 := by rw [← hh0]; rfl
  rw [hh0] at hrg
  obtain ⟨hc, hhc⟩ : ∃ q, (cellsW h0).toArray = q := ⟨_, rfl⟩
  have HH0 : ∀ u : List W32, u = h0 → lstOf H0 = u := fun u hu => by rw [hh0, hu]
  have HHC := Lib.hid hhc
  have HL0 := Lib.hid hl0
  have HRG := Lib.hid hrg
  have Q1 := Lib.hid q1
  have R2 := Lib.hid r2
  clear r1 q1 r2 hb1 hh0 hl0 hrg hhc
  refine callsIn_of_wp_marks Tryd.func8 rfl trivial ?_ rfl
  simp only [Tryd.ntmps8, List.size_toArray, List.length_cons, List.length_nil, Nat.reduceAdd, Nat.reduceSub, Array.replicate_succ, Array.replicate_zero, List.push_toArray, List.append_toArray, List.nil_append, List.cons_append]
  gi_wp2_with (first | (refine wpListIn_load_mid rfl 41 (.global 0) rfl 0 0 rfl (cellsW h0) _ HRG.out Tryd.underlying41 rfl (by rw [cellsW_length, HL0.out]; kernel_rfl) ?_; rw [HHC.out]) | (refine wpListIn_store_row rfl rfl 41 (.tmp 3) (.tmp 9) rfl (W.heap.size + 1) 41 8 (wf []) (wf h0) (cellsW h0) rfl (by rw [HHC.out]; rfl) R2.out (by rw [cellsW_length, HL0.out]) (by kernel_rfl) (cellsW_one _) (fun j hj => cellsW_at _ j (by rw [HL0.out]; exact hj)) ?_))
  intro w3 r3 hg3
  have hb3 : Below W.heap.size W w3 := hb2.grown hg3 hb2.size (fun k hk => by cases hk; omega)
  have q3 : w3.rowIs W.heap.size 26 32 (bf []) := Q1.out.of_block (hg3.block _ Q1.out.lt (by simp))
  have s3 : W.heap.size + 2 ≤ w3.heap.size := by have := hg3.size; omega
  clear hg3 Q1 R2 HRG hb2 s1 s2 hw1 hw2
  gi_wp2_with (refine ⟨trivial, ?_⟩; gi_at_call 14; refine (callsIn_wide.2 (blocks_any _ _ _ _)).mono ?_; rintro e w2 ⟨rfl, rfl⟩)
  obtain ⟨w5, hw5⟩ : ∃ w5, w3.alloc (.cells #[.slice A ps.length c] 39) = w5 := ⟨_, rfl⟩
  have hs5 : w5.heap.size = w3.heap.size + 1 := by rw [← hw5, World.size_alloc]
  have hb5 : Below W.heap.size W w5 := by rw [← hw5]; exact hb3.alloc hb3.size _
  have hc5 : w5.cell? ⟨w3.heap.size, 0, none⟩ = some (.slice A ps.length c) := by
    rw [← hw5]
    exact (World.rowIs_alloc w3 #[.slice A ps.length c] 39 (fun _ => .slice A ps.length c) (one_at _)).cell (i := 0) (show 0 < 1 by decide)
  have r5 : w5.rowIs (W.heap.size + 1) 41 8 (wf h0) := by rw [← hw5]; exact r3.alloc _
  have q5 : w5.rowIs W.heap.size 26 32 (bf []) := by rw [← hw5]; exact q3.alloc _
  rw [hw5]
  refine wpIn_rangeAll h1' (gf := 19) (lb := #[.pointer (some ⟨w3.heap.size, 0, none⟩)]) rfl (enters_of Tryd.func19 (by kernel_rfl) rfl)
    (blocks_seq (n - 1) (by omega) (fun k => k = W.heap.size + 1) w3.heap.size A c ps htot hps)
    (fun V hV => ⟨by have := hV.size; omega, (hV.cell (p := ⟨w3.heap.size, 0, none⟩) (by show w3.heap.size < w5.heap.size; omega)).trans hc5, (hPS.wide (T := fun k => k = W.heap.size + 1) (fun k hk => .inr (by omega))).kx (KX.below _ (hb5.trans (hV.mono hb5.size))), fun k hk => by have := hV.size; omega⟩)
    (fun x ars V h => by have e : ars = _ := h.2; rw [e]; rfl)
    (fun pre V => V.rowIs (W.heap.size + 1) 41 8 (wf (lstOf (folds pre))) ∧ V.rowIs W.heap.size 26 32 (bf []) ∧ Below W.heap.size W V)
    (fun s X Y hX hXY => ⟨hX.1.of_block (hXY.block _ (by omega)), hX.2.1.of_block (hXY.block _ (by omega)), hX.2.2.trans (hXY.mono hb5.size)⟩)
    ⟨by rw [show folds [] = H0 from rfl, HH0 h0 rfl]; exact r5, q5, hb5⟩
    (fun x a' V => ∃ Bx, W.heap.size + 1 < Bx ∧ V.rowIs Bx 46 64 (bf x) ∧ a' = { tmps := #[.slice A ps.length c, undef, .pointer (some ⟨W.heap.size, 0, none⟩), .pointer (some ⟨W.heap.size + 1, 0, none⟩), .pointer (some ⟨Bx, 0, none⟩), undef, undef, undef, undef, .agg hc, .slice A ps.length c, .func (.func 19) #[] #[.pointer (some ⟨w3.heap.size, 0, none⟩)], .agg (cellsB x).toArray, undef, undef, undef, undef, undef, undef, undef, undef, undef, undef, undef, undef, undef, undef, undef, undef, undef, undef, undef, undef, undef, undef, undef, undef, undef], defers := [] })
    (fun x a' V l o o' h _ hl hc => by
      obtain ⟨Bx, h1, ⟨cc, h2, h3, h4⟩, h5⟩ := h
      exact ⟨Bx, h1, ⟨cc, (World.putObj_heap_other (fun e => by subst e; rw [hl] at h2; cases h2; cases hc)).trans h2, h3, h4⟩, h5⟩)
    ?assign ?body ?done
  case assign =>
    rintro l2 pre x ars V K ⟨hs1, hs2, hb⟩ hsz ⟨hxl, rfl⟩ hK
    obtain ⟨V2, hV2⟩ : ∃ V2, V.alloc (.cells #[.int .u8 0, .int .u8 0, .int .u8 0, .int .u8 0, .int .u8 0, .int .u8 0, .int .u8 0, .int .u8 0, .int .u8 0, .int .u8 0, .int .u8 0, .int .u8 0, .int .u8 0, .int .u8 0, .int .u8 0, .int .u8 0, .int .u8 0, .int .u8 0, .int .u8 0, .int .u8 0, .int .u8 0, .int .u8 0, .int .u8 0, .int .u8 0, .int .u8 0, .int .u8 0, .int .u8 0, .int .u8 0, .int .u8 0, .int .u8 0, .int .u8 0, .int .u8 0, .int .u8 0, .int .u8 0, .int .u8 0, .int .u8 0, .int .u8 0, .int .u8 0, .int .u8 0, .int .u8 0, .int .u8 0, .int .u8 0, .int .u8 0, .int .u8 0, .int .u8 0, .int .u8 0, .int .u8 0, .int .u8 0, .int .u8 0, .int .u8 0, .int .u8 0, .int .u8 0, .int .u8 0, .int .u8 0, .int .u8 0, .int .u8 0, .int .u8 0, .int .u8 0, .int .u8 0, .int .u8 0, .int .u8 0, .int .u8 0, .int .u8 0, .int .u8 0] 46) = V2 := ⟨_, rfl⟩
    have rz := World.rowIs_alloc V #[.int .u8 0, .int .u8 0, .int .u8 0, .int .u8 0, .int .u8 0, .int .u8 0, .int .u8 0, .int .u8 0, .int .u8 0, .int .u8 0, .int .u8 0, .int .u8 0, .int .u8 0, .int .u8 0, .int .u8 0, .int .u8 0, .int .u8 0, .int .u8 0, .int .u8 0, .int .u8 0, .int .u8 0, .int .u8 0, .int .u8 0, .int .u8 0, .int .u8 0, .int .u8 0, .int .u8 0, .int .u8 0, .int .u8 0, .int .u8 0, .int .u8 0, .int .u8 0, .int .u8 0, .int .u8 0, .int .u8 0, .int .u8 0, .int .u8 0, .int .u8 0, .int .u8 0, .int .u8 0, .int .u8 0, .int .u8 0, .int .u8 0, .int .u8 0, .int .u8 0, .int .u8 0, .int .u8 0, .int .u8 0, .int .u8 0, .int .u8 0, .int .u8 0, .int .u8 0, .int .u8 0, .int .u8 0, .int .u8 0, .int .u8 0, .int .u8 0, .int .u8 0, .int .u8 0, .int .u8 0, .int .u8 0, .int .u8 0, .int .u8 0, .int .u8 0] 46 (bf []) (fun i hi => zb64_at i hi)
    have hbV : Below V.heap.size V V2 := by rw [← hV2]; exact (Below.refl _ _).alloc (Nat.le_refl _) _
    have hkV : KeepsOthers V V2 := by rw [← hV2]; exact KeepsOthers.alloc _ _
    rw [hV2] at rz
    have RZ := Lib.hid rz
    have HXL := Lib.hid hxl
    obtain ⟨xc, hxc⟩ : ∃ q, (cellsB x).toArray = q := ⟨_, rfl⟩
    have HXC := Lib.hid hxc
    clear rz hxl
    rw [hxc]
    clear hxc
    gi_wp2_with (refine wpListIn_store_row rfl rfl 46 (.tmp 4) (.tmp 12) rfl V.heap.size 46 64 (bf []) (bf x) (cellsB x) rfl (by rw [HXC.out]; rfl) RZ.out (by rw [cellsB_length, HXL.out]) (by kernel_rfl) (cellsB_one _) (fun j hj => cellsB_at _ j (by rw [HXL.out]; exact hj)) ?_)
    intro V3 r3' hg3'
    have hb3' : Below V.heap.size V V3 := hbV.grown hg3' hbV.size (fun k hk => by cases hk; exact Nat.le_refl _)
    have hkf : KeepsFrom w5.heap.size V V3 := (hkV.from _).trans ((KeepsOthers.of_grownBy hg3' (fun j o e ho => by
      cases e
      obtain ⟨cc, h2, _⟩ := RZ.out
      rw [h2] at ho
      cases ho
      rfl)).from _)
    clear hV2 hg3' hbV hkV RZ
    gi_wp2
    exact hK _ _ hkf (KX.below _ hb3') ⟨hs1.of_block (hb3'.block _ hs1.lt), hs2.of_block (hb3'.block _ hs2.lt), hb.trans (hb3'.mono hb.size)⟩ ⟨V.heap.size, hs1.lt, r3', by rw [HXC.out]⟩
  case body =>
    rintro l2 pre x rest a' V hxs hsz ⟨hs1, hs2, hb⟩ ⟨Bx, hBx, hrx, rfl⟩
    have hxl : x.length = 64 := blks_mem _ x (by rw [hxs]; simp)
    have hmix := fun U hU => mix_any (folds pre) x hxl U hU
    rw [← folds_snoc] at hmix
    obtain ⟨sl, hsl⟩ : ∃ q, lstOf (folds pre) = q := ⟨_, rfl⟩
    obtain ⟨nl, hnl⟩ : ∃ q, lstOf (folds (pre ++ [x])) = q := ⟨_, rfl⟩
    have hsll : sl.length = 8 := by rw [← hsl]; rfl
    have hnll : nl.length = 8 := by rw [← hnl]; rfl
    rw [hsl, hnl] at hmix
    rw [hsl] at hs1
    obtain ⟨slc, hslc⟩ : ∃ q, (cellsW sl).toArray = q := ⟨_, rfl⟩
    obtain ⟨xc, hxc⟩ : ∃ q, (cellsB x).toArray = q := ⟨_, rfl⟩
    obtain ⟨nlc, hnlc⟩ : ∃ q, (cellsW nl).toArray = q := ⟨_, rfl⟩
    rw [hslc, hxc, hnlc] at hmix
    have hcall := hmix V (hE.after hb)
    have HRS := Lib.hid (roww_range hs1 hsll)
    have HRX := Lib.hid (rowb_range hrx hxl)
    have HS := Lib.hid hslc
    have HX := Lib.hid hxc
    have HN := Lib.hid hnlc
    have HSL := Lib.hid hsll
    have HNL := Lib.hid hnll
    have HXL := Lib.hid hxl
    have HFN : ∀ u : List W32, u = nl → lstOf (folds (pre ++ [x])) = u := fun u hu => by rw [hnl, hu]
    have st : ∀ V1, Below V.heap.size V V1 → V1.rowIs (W.heap.size + 1) 41 8 (wf sl) := fun V1 h => hs1.of_block (h.block _ hs1.lt)
    have ST := Lib.hid st
    rw [hxc]
    clear hsl hnl hsll hnll hslc hxc hnlc hmix hxs hxl st
    gi_wp2_with (first | (refine wpListIn_load_mid rfl 41 (.tmp 3) rfl (W.heap.size + 1) 0 rfl (cellsW sl) _ HRS.out Tryd.underlying41 rfl (by rw [cellsW_length, HSL.out]; kernel_rfl) ?_; rw [HS.out]) | (refine wpListIn_load_mid rfl 46 (.tmp 4) rfl Bx 0 rfl (cellsB x) _ HRX.out Tryd.underlying46 rfl (by rw [cellsB_length, HXL.out]; kernel_rfl) ?_; rw [HX.out]))
    refine ⟨trivial, (fun h => by cases h), ?_⟩
    refine (CallsIn.inRound l2 (callsIn_wide.2 hcall)).mono ?_
    rintro e V1 ⟨rfl, hbm⟩
    have hs1m := ST.out V1 hbm
    gi_wp2_with (refine wpListIn_store_row rfl rfl 41 (.tmp 3) (.tmp 15) rfl (W.heap.size + 1) 41 8 (wf sl) (wf nl) (cellsW nl) rfl (by rw [HN.out]; rfl) hs1m (by rw [cellsW_length, HNL.out]) (by kernel_rfl) (cellsW_one _) (fun j hj => cellsW_at _ j (by rw [HNL.out]; exact hj)) ?_)
    intro V2 r2' hg2'
    clear hs1m
    gi_wp2
    have hbV1 : Below W.heap.size W V1 := hb.trans (hbm.mono hb.size)
    have hk1 : KeepsFrom w5.heap.size V V1 := ⟨hbm.size, fun k o _ hk _ => (hbm.block k (Array.getElem?_eq_some_iff.1 hk).1).trans hk⟩
    refine ⟨hk1.trans (KeepsFrom.of_grownBy hg2' (fun j e => by cases e; omega)), (KX.below _ hbm).trans (KX.grown hg2' rfl), ?_, ?_, ?_⟩
    · rw [HFN nl rfl]; exact r2'
    · exact (hs2.of_block (hbm.block _ hs2.lt)).of_block (hg2'.block _ (Nat.lt_of_lt_of_le hs2.lt hbm.size) (by simp))
    · exact hbV1.grown hg2' hbV1.size (fun k hk => by cases hk; omega)
  case done =>
    rintro D V hD ⟨hs1, hs2, hb⟩ hK
    obtain ⟨V2, hV2⟩ : ∃ V2, V.alloc (.cells #[.int .u8 0, .int .u8 0, .int .u8 0, .int .u8 0, .int .u8 0, .int .u8 0, .int .u8 0, .int .u8 0, .int .u8 0, .int .u8 0, .int .u8 0, .int .u8 0, .int .u8 0, .int .u8 0, .int .u8 0, .int .u8 0, .int .u8 0, .int .u8 0, .int .u8 0, .int .u8 0, .int .u8 0, .int .u8 0, .int .u8 0, .int .u8 0, .int .u8 0, .int .u8 0, .int .u8 0, .int .u8 0, .int .u8 0, .int .u8 0, .int .u8 0, .int .u8 0] 26) = V2 := ⟨_, rfl⟩
    have rz := World.rowIs_alloc V #[.int .u8 0, .int .u8 0, .int .u8 0, .int .u8 0, .int .u8 0, .int .u8 0, .int .u8 0, .int .u8 0, .int .u8 0, .int .u8 0, .int .u8 0, .int .u8 0, .int .u8 0, .int .u8 0, .int .u8 0, .int .u8 0, .int .u8 0, .int .u8 0, .int .u8 0, .int .u8 0, .int .u8 0, .int .u8 0, .int .u8 0, .int .u8 0, .int .u8 0, .int .u8 0, .int .u8 0, .int .u8 0, .int .u8 0, .int .u8 0, .int .u8 0, .int .u8 0] 26 (bf []) (fun i hi => zb32_at i hi)
    have hbV : Below V.heap.size V V2 := by rw [← hV2]; exact (Below.refl _ _).alloc (Nat.le_refl _) _
    rw [hV2] at rz
    have hDl : D < V.heap.size := (Array.getElem?_eq_some_iff.1 hK).1
    have hK2 : V2.heap[D]? = some (.deferred (some [])) := (hbV.block D hDl).trans hK
    have t1 := hs1.of_block (hbV.block _ hs1.lt)
    have t2 := hs2.of_block (hbV.block _ hs2.lt)
    have hb2 : Below W.heap.size W V2 := hb.trans (hbV.mono hb.size)
    have hsum : sumP ps.flatten = outL (folds (blks (padL ps.flatten))) := rfl
    obtain ⟨st, hst⟩ : ∃ q, folds (blks (padL ps.flatten)) = q := ⟨_, rfl⟩
    rw [hst] at t1 hsum
    obtain ⟨o, ho⟩ : ∃ q, outL st = q := ⟨_, rfl⟩
    obtain ⟨sl, hsl⟩ : ∃ q, lstOf st = q := ⟨_, rfl⟩
    have hval : ∀ i j, i < 8 → j < 4 → ∀ x : W32, sl.getD i 0#32 = x → Value.int .u8 ((x.toNat : Int) / 2 ^ (24 - 8 * j) % 256) = bf o (4 * i + j) := fun i j hi hj x hx => by rw [← hx, ← hsl, ← ho]; exact out_val st i j hi hj
    have hol : o.length = 32 := by rw [← ho]; rfl
    have hsll : sl.length = 8 := by rw [← hsl]; rfl
    rw [hsl] at t1
    rw [ho] at hsum
    have HO : ∀ u : List UInt8, u = o → sumP ps.flatten = u := fun u hu => by rw [hsum, hu]
    obtain ⟨slc, hslc⟩ : ∃ q, (cellsW sl).toArray = q := ⟨_, rfl⟩
    have HSC := Lib.hid hslc
    have HRS := Lib.hid (roww_range t1 hsll)
    have HSL := Lib.hid hsll
    have HOL := Lib.hid hol
    have HVAL := Lib.hid hval
    have T2 := Lib.hid t2
    have RZ := Lib.hid rz
    have HK2 := Lib.hid hK2
    clear hst ho hsl hsum hslc hsll hol hval t1 t2 hs1 hs2 hb hK hbV rz hK2 HH0 HHC HL0 hc5 r5 q5 hb5 hw5 r3 q3 hb3
    gi_wp2_with (refine wpListIn_load_mid rfl 41 (.tmp 3) rfl (W.heap.size + 1) 0 rfl (cellsW sl) _ HRS.out Tryd.underlying41 rfl (by rw [cellsW_length, HSL.out]; kernel_rfl) ?_; rw [HSC.out])
    clear hV2
    gi_loopw [17] (fun ti wr => ∃ i : Nat, i ≤ 8 ∧ ti = .int .i64 i ∧ wr.rowIs V.heap.size 26 32 (fun n => if n < 4 * i then bf o n else bf [] n) ∧ wr.rowIs W.heap.size 26 32 (bf []) ∧ Below W.heap.size W wr ∧ Hid (wr.heap[D]? = some (.deferred (some [])))) (fun ti _ => 8 - (RowKit.intOf ti).toNat)
    case atStart => exact ⟨0, by omega, rfl, RZ.out.congr (fun i _ => by simp), T2.out, hb2, HK2.out⟩
    case round =>
      clear hb2 RZ T2 HK2
      obtain ⟨i, hi, rfl, p1, p2, hbr, hKr⟩ := hrel
      have hsV := p1.lt
      by_cases hil : i < 8
      · have hd : decide ((i : Int) < 8) = true := by simpa using (by omega : (i : Int) < 8)
        obtain ⟨x, hx⟩ : ∃ x, sl.getD i 0#32 = x := ⟨_, rfl⟩
        have xv : ∀ U, (Instr.index 41 (.agg slc) (.int .i64 (i : Int))).run Tryd.prog U = .ok (.int .u32 (x.toNat : Int)) U := fun U => by
          rw [← HSC.out]
          have hv : (cellsW sl)[i]? = some (.int .u32 (x.toNat : Int)) := by rw [cellsW_at sl i (by rw [HSL.out]; exact hil), wf_get hx]
          exact ix_val U _ _ 8 _ _ i _ Tryd.underlying41 (size_u32 U) rfl hil (part_u32 U _ i _ hv)
        have hv2 := fun j hj => HVAL.out i j hil hj x hx
        have HV2 := Lib.hid hv2
        clear hx hv2
        gi_wp2
        obtain ⟨V0, hV0⟩ : ∃ V0, V0 = wr := ⟨_, rfl⟩
        subst hV0
        gi_loopw [21] (fun tj wr => ∃ j : Nat, j ≤ 4 ∧ tj = .int .i64 j ∧ wr.rowIs V.heap.size 26 32 (fun n => if n < 4 * i + j then bf o n else bf [] n) ∧ wr.rowIs W.heap.size 26 32 (bf []) ∧ Below W.heap.size W wr ∧ Hid (wr.heap[D]? = some (.deferred (some [])))) (fun tj _ => 4 - (RowKit.intOf tj).toNat)
        case atStart => exact ⟨0, by omega, rfl, p1, p2, hbr, hKr⟩
        case round =>
          clear p1 p2 hbr hKr
          obtain ⟨j, hj, rfl, p1, p2, hbr, hKr⟩ := hrel
          by_cases hjl : j < 4
          · have cj := p1.cell (i := 4 * i + j) (by omega)
            have fj := p1.frozen (4 * i + j)
            rw [if_neg (Nat.lt_irrefl _)] at cj
            have xj : ∀ U, (Instr.indexAt 26 (.pointer (some ⟨V.heap.size, 0, none⟩)) (.int .i64 (4 * (i : Int) + (j : Int)))).run Tryd.prog U = .ok (.pointer (some ⟨V.heap.size, 4 * i + j, none⟩)) U := fun U => ix_at U _ _ 32 _ _ (4 * i + j) Tryd.underlying26 (size_u8 U) (by omega) (by omega)
            have HVJ := Lib.hid (HV2.out j hjl)
            have hne : V.heap.size ≠ D := by omega
            gi_wp2
            go_roundw
            case rel => exact ⟨j + 1, by omega, by go_num, row_step2 (f := bf o) (g := bf []) p1 HVJ.out, p2.setOther (a := ⟨V.heap.size, 4 * i + j, none⟩) (by simp; have := p2.lt; omega) _, hbr.setCell (p := ⟨V.heap.size, 4 * i + j, none⟩) (by show W.heap.size ≤ V.heap.size; omega) _, by
              show (wr.setCell _ _).heap[D]? = _
              rw [Below.heap_setCell _ _ _ _ (by show D ≠ V.heap.size; omega)]
              exact hKr⟩
            case measure => simp [RowKit.intOf]; omega
          · obtain rfl : j = 4 := by omega
            gi_wp2
            go_roundw
            case rel => exact ⟨i + 1, by omega, by go_num, p1, p2, hbr, hKr⟩
            case measure => simp [RowKit.intOf]; omega
      · have hge : 8 ≤ i := by omega
        have p1' : wr.rowIs V.heap.size 26 32 (bf o) := p1.congr (fun j hj => by rw [if_pos (by omega)])
        have HRO := Lib.hid (rowb_range p1' HOL.out)
        obtain ⟨oc, hoc⟩ : ∃ q, (cellsB o).toArray = q := ⟨_, rfl⟩
        have HOC := Lib.hid hoc
        have P2 := Lib.hid p2
        clear p1 p1' p2 hoc HVAL
        gi_wp2_with (first | (refine wpListIn_load_mid rfl 26 (.tmp 5) rfl V.heap.size 0 rfl (cellsB o) _ HRO.out Tryd.underlying26 rfl (by rw [cellsB_length, HOL.out]; kernel_rfl) ?_; rw [HOC.out]) | (refine wpListIn_store_row rfl rfl 26 (.tmp 2) (.tmp 37) rfl W.heap.size 26 32 (bf []) (bf o) (cellsB o) rfl (by rw [HOC.out]; rfl) P2.out (by rw [cellsB_length, HOL.out]) (by kernel_rfl) (cellsB_one _) (fun j hj => cellsB_at _ j (by rw [HOL.out]; exact hj)) ?_))
        intro V5 r5' hg5
        have hb5' : Below W.heap.size W V5 := hbr.grown hg5 hbr.size (fun k hk => by cases hk; exact Nat.le_refl _)
        have hDW : D ≠ W.heap.size := by omega
        have hDl2 : D < wr.heap.size := (Array.getElem?_eq_some_iff.1 hKr.out).1
        have hK5 : V5.heap[D]? = some (.deferred (some [])) := (hg5.block D hDl2 (fun e => hDW (by cases e; rfl))).trans hKr.out
        have hbF : Below W.heap.size W (V5.putObj D (.deferred none)) := hb5'.trans (below_put _ (Array.getElem?_eq_some_iff.1 hK5).1 (by omega))
        have r6 : (V5.putObj D (.deferred none)).rowIs W.heap.size 26 32 (bf o) := by
          obtain ⟨cc, h2, h3, h4⟩ := r5'
          exact ⟨cc, (World.putObj_heap_other (fun e => hDW e.symm)).trans h2, h3, h4⟩
        have hld := run_loadVar_mid (V5.putObj D (.deferred none)) W.heap.size 0 26 (cellsB o) _ (rowb_range r6 HOL.out) Tryd.underlying26 rfl (by rw [cellsB_length, HOL.out]; kernel_rfl)
        clear hg5 r5' r6 hbr hb5' HRO P2
        gi_wp2
        refine ⟨by simp, .inl ⟨_, _, rfl, run_takeDeferred hK5, ?_⟩⟩
        refine ⟨.agg (cellsB o).toArray, ?_, by rw [HO o rfl], hbF⟩
        simp [results, Tryd.results8, asAddr, hld]
theorem sum_any (A : Option Addr) (c : Nat) (ps : List (List UInt8)) (htot : ps.flatten.length < 2 ^ 60) (hps : ps.length ≤ 2 ^ 47) (n : Nat) (hn : ps.length = n) (W : World) (hE : Env W) (hPS : PS (fun _ => False) W A ps) :
    Calls Tryd.prog 8 #[.slice A n c] W fun e w' => e = .returned (.agg (cellsB (sumP ps.flatten)).toArray) ∧ Below W.heap.size W w' := by
  subst hn
  exact callsIn_wide.1 (sum_in 9 (by decide) A c ps htot hps W hE hPS)
end Go.Proofs.YtkgmkblcofedbaaDoor
