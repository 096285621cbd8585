/-
  The walk of the document's Tables. Conditions: none.
-/
import Derived.Test.YtkgmkblcofedbaaDoorRB
import Derived.Test.YtkgmkblcofedbaaDoorRP
namespace Go.Proofs.YtkgmkblcofedbaaDoor
open Go.RowKit
open Go.Lib

theorem Tryd.info32 : (Tryd.prog.info? 40).map (fun i => (i.zero, i.size, i.bytes)) = some (some (.int .u32 0), 1, 4) := by kernel_rfl
/-- A slice of the call's own that holds these words. -/
def OwnW (w : World) (base : Nat) (v : Value) (l : List W32) : Prop := w.ownsRow base 40 1 v l.length (cellsW l)
/-- A slice that reads as these words. -/
def RW (w : World) (A : Option Addr) (l : List W32) : Prop :=
  0 < l.length → ∃ b, A = some ⟨b, 0, none⟩ ∧ b < w.heap.size ∧ ∀ j, j < l.length → w.cell? ⟨b, j, none⟩ = some (wf l j)
theorem OwnW.read {w : World} {base : Nat} {v : Value} {l : List W32} (h : OwnW w base v l) : ∃ A c, v = .slice A l.length c ∧ l.length ≤ c ∧ RW w A l := by
  rcases h.2 with ⟨rfl, hn⟩ | ⟨g, cap, cur, rfl, hb, hh, hc, _, _, _⟩
  · exact ⟨none, 0, by rw [hn], by omega, fun hz => absurd hz (by omega)⟩
  · refine ⟨some ⟨g, 0, none⟩, cap, rfl, hc, fun _ => ⟨g, rfl, (World.ownsRow.lt h g rfl).2, fun j hj => ?_⟩⟩
    rw [World.ownsRow.cellAt h j (by omega), cellsW_at l j hj]
theorem OwnW.below {w w' : World} {base : Nat} {v : Value} {l : List W32} (h : OwnW w base v l) (hb : Below w.heap.size w w') : OwnW w' base v l := by
  refine World.ownsRow.kept h (row := none) ⟨hb.os, hb.tape, hb.output, hb.size, fun k hk _ => hb.block k hk⟩ ?_
  cases v.ownBlock with
  | none => exact .inl rfl
  | some k => exact .inr (by simp)
theorem RW.below {w w' : World} {A : Option Addr} {l : List W32} {B : Nat} (h : RW w A l) (hB : w.heap.size ≤ B) (hb : Below B w w') : RW w' A l := fun hz => by
  obtain ⟨b, rfl, hlt, hc⟩ := h hz
  have := hb.size
  exact ⟨b, rfl, by omega, fun j hj => (hb.cell (p := ⟨b, j, none⟩) (by show b < B; omega)).trans (hc j hj)⟩
theorem RN.below {w w' : World} {A : Option Addr} {l : List Nat} {B : Nat} (h : RN w A l) (hB : w.heap.size ≤ B) (hb : Below B w w') : RN w' A l := fun hz => by
  obtain ⟨b, rfl, hlt, hc⟩ := h hz
  have := hb.size
  exact ⟨b, rfl, by omega, fun j hj => (hb.cell (p := ⟨b, j, none⟩) (by show b < B; omega)).trans (hc j hj)⟩
/-- One word more behind a list of the call's own. -/
theorem appW {ops : Array Oper} {rest : List Oper} {o : Oper} {a : Act} {Q : Exit → Act → World → Prop} (hgd : o.guard = none) (s x : Operand)
    (ho : o.op = .call { callee := .builtin .append, args := #[s, x], argTypes := #[48, 48] }) (w w0 : World) (B base : Nat) (v : Value) (l : List W32) (n : Nat) (hn : l.length = n) (y : W32)
    (hs : a.eval s = v) (hown : OwnW w base v l) (hx : a.eval x = .slice (some ⟨w.heap.size, 0, none⟩) 1 1) (hlen : n ≤ 1000000) (hbase : base ≤ w.heap.size) (hB : B ≤ base) (hb : Below B w0 w)
    (h : ∀ A c w', OwnW w' base (.slice A (n + 1) c) (l ++ [y]) → RW w' A (l ++ [y]) → Below B w0 w' → wpList Tryd.prog ops Q rest (a.put o.dst (.slice A (n + 1) c)) w') :
    wpList Tryd.prog ops Q (o :: rest) a (w.alloc (.cells #[.int .u32 (y.toNat : Int)] 40)) := by
  obtain ⟨i0, hi, hz0, hz1, hz2⟩ := info_parts Tryd.info32
  unfold OwnW at hown
  rw [hn] at hown
  refine wpList_append_own _ hgd s x 48 ho base 40 i0 (.int .u32 0) 1 4 Tryd.underlying48 hi hz0 hz1 hz2 rfl (by decide) v n _ hs (World.ownsRow.alloc hown _) ⟨w.heap.size, 0, none⟩ 1 1 [.int .u32 (y.toNat : Int)] hx rfl (one_cell _ _ _) (fun u hu => by simp at hu; subst hu; rfl) (by unfold maxLen; omega) (by omega) (by simp; omega) ?_
  intro v' w' hown' hgrow _
  have hfin : OwnW w' base v' (l ++ [y]) := by
    unfold OwnW
    rw [List.length_append, cellsW_append, hn]
    exact hown'
  obtain ⟨A, c, hv, hc, hr⟩ := hfin.read
  have hl : (l ++ [y]).length = n + 1 := by rw [List.length_append, hn]; rfl
  rw [hl] at hv
  subst hv
  refine h A c w' hfin hr ?_
  refine (hb.alloc (by omega) _).grown hgrow (by simp; omega) (fun k hk => ?_)
  have := (World.ownsRow.lt hown k hk).1
  omega
theorem rootP_lt (p d : Nat) : rootP p d < 4294967296 := Nat.mod_lt _ (by decide)
def wr2 (p : Nat) : W32 := BitVec.ofNat 32 (rootP p 2)
def wr3 (p : Nat) : W32 := BitVec.ofNat 32 (rootP p 3)
theorem wr2_at (p : Nat) (hp : p ≤ 400) (w : World) : Calls Tryd.prog 24 #[.int .u64 (p : Int), .int .i64 2] w fun e w' => e = .returned (.int .u32 ((wr2 p).toNat : Int)) ∧ w = w' :=
  (root2_any p hp w).mono fun e w' h => ⟨by rw [h.1]; exact ret_int (by unfold wr2; rw [BitVec.toNat_ofNat, Nat.mod_eq_of_lt (rootP_lt p 2)]), h.2⟩
theorem wr3_at (p : Nat) (hp : p ≤ 400) (w : World) : Calls Tryd.prog 24 #[.int .u64 (p : Int), .int .i64 3] w fun e w' => e = .returned (.int .u32 ((wr3 p).toNat : Int)) ∧ w = w' :=
  (root3_any p hp w).mono fun e w' h => ⟨by rw [h.1]; exact ret_int (by unfold wr3; rw [BitVec.toNat_ofNat, Nat.mod_eq_of_lt (rootP_lt p 3)]), h.2⟩
theorem map_next {f : Nat → W32} (l : List Nat) (j p : Nat) (hj : j < l.length) (hp : l.getD j 0 = p) : (l.map f).take (j + 1) = (l.map f).take j ++ [f p] := by
  rw [List.take_succ_eq_append_getElem (by rw [List.length_map]; exact hj)]
  have : l[j] = p := by rw [← hp]; simp [List.getD, hj]
  simp [this]
def Tabs8 (l : List Nat) : Prop := l.map wr2 = lstOf H0
def Tabs64 (l : List Nat) : Prop := l.map wr3 = K0
theorem tabs8 : Tabs8 (pst 18).1 := by unfold Tabs8; rw [pst_8]; exact roots2
theorem tabs64 : Tabs64 (pst 310).1 := by
  unfold Tabs64
  rw [pst_64]
  show primesL.map (fun p => BitVec.ofNat 32 (rootP p 3)) = KL.map (BitVec.ofNat 32)
  rw [← roots3, List.map_map]
  rfl
theorem p8_any (w : World) : Calls Tryd.prog 23 #[.int .i64 8] w fun e w' => (∃ A c l, e = .returned (.slice A 8 c) ∧ RN w' A l ∧ l.length = 8 ∧ Tabs8 l ∧ ∀ q ∈ l, q ≤ 400) ∧ Below w.heap.size w w' :=
  (primes_any 8 18 (by decide) (by decide) pst_few8 (by rw [pst_8]; rfl) w).mono fun e w' ⟨⟨v, he, ho⟩, hb⟩ => by
    obtain ⟨A, c, rfl, _, hr⟩ := ho.read
    have hl : (pst 18).1.length = 8 := by rw [pst_8]; rfl
    exact ⟨⟨A, c, (pst 18).1, by rw [he, hl], hr, hl, tabs8, fun q hq => by have := pst_pos 18 q hq; omega⟩, hb⟩
theorem p64_any (w : World) : Calls Tryd.prog 23 #[.int .i64 64] w fun e w' => (∃ A c l, e = .returned (.slice A 64 c) ∧ RN w' A l ∧ l.length = 64 ∧ Tabs64 l ∧ ∀ q ∈ l, q ≤ 400) ∧ Below w.heap.size w w' :=
  (primes_any 64 310 (by decide) (by decide) pst_few64 (by rw [pst_64]; rfl) w).mono fun e w' ⟨⟨v, he, ho⟩, hb⟩ => by
    obtain ⟨A, c, rfl, _, hr⟩ := ho.read
    have hl : (pst 310).1.length = 64 := by rw [pst_64]; rfl
    exact ⟨⟨A, c, (pst 310).1, by rw [he, hl], hr, hl, tabs64, fun q hq => by have := pst_pos 310 q hq; omega⟩, hb⟩
set_option maxRecDepth 100000 in
set_option maxHeartbeats 2000000 in
theorem tables_any (w : World) : Calls Tryd.prog 16 #[] w fun e w' => (∃ A c A' c', e = .returned (.tuple #[.slice A 8 c, .slice A' 64 c']) ∧ RW w' A (lstOf H0) ∧ RW w' A' K0) ∧ Below w.heap.size w w' := by
  go_enter Tryd.func16, Tryd.ntmps16
  go_wp2_with (go_at_call 23; refine (p8_any _).mono ?_; rintro e w1 ⟨⟨A8, c8, l8, rfl, hr8, hl8, ht8, hq8⟩, hb8⟩)
  have HT8 := Lib.hid ht8
  have HL8 := Lib.hid hl8
  have hwz8 := hb8.size
  clear ht8 hl8
  obtain ⟨r8, hr8e⟩ : ∃ r, l8.map wr2 = r := ⟨_, rfl⟩
  have HR8 := Lib.hid hr8e
  have hrl : r8.length = 8 := by rw [← hr8e, List.length_map, HL8.out]
  have HRL8 := Lib.hid hrl
  clear hr8e hrl
  go_loopw [2, 10] (fun v i wr => ∃ (j : Nat) (A : Option Addr) (c : Nat), j ≤ 8 ∧ i = .int .i64 j ∧ v = .slice A j c ∧ OwnW wr w1.heap.size (.slice A j c) (r8.take j) ∧ RW wr A (r8.take j) ∧ Below w1.heap.size w1 wr) (fun _ i _ => 8 - (RowKit.intOf i).toNat)
  case atStart => exact ⟨0, none, 0, by omega, rfl, rfl, World.ownsRow_nil _ _ _ _, fun h => absurd h (by simp), Below.refl _ _⟩
  case round =>
    obtain ⟨j, A, c, hj, rfl, rfl, hown, hrw, hbr⟩ := hrel
    have hbz := hbr.size
    by_cases hjl : j < 8
    · obtain ⟨g, rfl, hgl, hcs⟩ := (hr8.below (Nat.le_refl _) hbr) (by rw [HL8.out]; omega)
      have cj := hcs j (by rw [HL8.out]; exact hjl)
      have hjl' : j < l8.length := by rw [HL8.out]; exact hjl
      have hpq := hq8 (l8.getD j 0) (by simp [List.getD, hjl'])
      obtain ⟨p, hp⟩ : ∃ p, l8.getD j 0 = p := ⟨_, rfl⟩
      have HM := Lib.hid (map_next (f := wr2) l8 j p hjl' hp)
      have HO := Lib.hid hown
      have hlen : (r8.take j).length = j := by rw [List.length_take, HRL8.out]; omega
      have HLN := Lib.hid hlen
      rw [hp] at cj hpq
      have hcall := fun W => wr2_at p hpq W
      obtain ⟨y, hy⟩ : ∃ y, wr2 p = y := ⟨_, rfl⟩
      rw [hy] at hcall
      have HY := Lib.hid hy
      clear hcs hp hown hlen hy hjl'
      obtain ⟨rj, hrj⟩ : ∃ q, r8.take j = q := ⟨_, rfl⟩
      have HRJ := Lib.hid (show r8.take (j + 1) = rj ++ [y] by rw [← HR8.out, HM.out, HR8.out, hrj, HY.out])
      rw [hrj] at HO HLN
      clear hrj
      go_wp2_with (first | (go_at_call 24; (with_reducible refine (hcall _).mono ?_); rintro e w' ⟨rfl, rfl⟩) | (at_builtin; refine appW rfl _ _ rfl wr w1 w1.heap.size w1.heap.size _ rj j HLN.out y rfl (by exact HO.out) rfl (by omega) (by omega) (Nat.le_refl _) hbr ?_))
      intro A3 c3 w3 hown3 hrw3 hb3
      go_wp2
      go_roundw
      case rel => exact ⟨j + 1, A3, c3, by omega, by go_num, rfl, by rw [HRJ.out]; exact hown3, by rw [HRJ.out]; exact hrw3, hb3⟩
      case measure => simp [RowKit.intOf]; omega
    · obtain rfl : j = 8 := by omega
      rw [List.take_of_length_le (by rw [HRL8.out]; exact Nat.le_refl _)] at hrw
      have HRW := Lib.hid hrw
      have hbw : Below w.heap.size w wr := hb8.trans (hbr.mono hwz8)
      clear hown hrw hr8 hq8 hbr
      go_wp2_with (go_at_call 23; refine (p64_any _).mono ?_; rintro e w2 ⟨⟨A64, c64, l64, rfl, hr64, hl64, ht64, hq64⟩, hb64⟩)
      have HRW2 := Lib.hid (HRW.out.below (Nat.le_refl _) hb64)
      obtain ⟨AF, hAF⟩ : ∃ q, q = A := ⟨_, rfl⟩
      subst hAF
      have hbw2 : Below w.heap.size w w2 := hbw.trans (hb64.mono hbw.size)
      have HT64 := Lib.hid ht64
      have HL64 := Lib.hid hl64
      have hwz64 := hb64.size
      clear ht64 hl64
      obtain ⟨r64, hr64e⟩ : ∃ r, l64.map wr3 = r := ⟨_, rfl⟩
      have HR64 := Lib.hid hr64e
      have hrl : r64.length = 64 := by rw [← hr64e, List.length_map, HL64.out]
      have HRL64 := Lib.hid hrl
      clear hr64e hrl
      go_loopw [3, 22] (fun v i wr => ∃ (j : Nat) (A : Option Addr) (c : Nat), j ≤ 64 ∧ i = .int .i64 j ∧ v = .slice A j c ∧ OwnW wr w2.heap.size (.slice A j c) (r64.take j) ∧ RW wr A (r64.take j) ∧ Below w2.heap.size w2 wr) (fun _ i _ => 64 - (RowKit.intOf i).toNat)
      case atStart => exact ⟨0, none, 0, by omega, rfl, rfl, World.ownsRow_nil _ _ _ _, fun h => absurd h (by simp), Below.refl _ _⟩
      case round =>
        obtain ⟨j, A, c, hj, rfl, rfl, hown, hrw, hbr⟩ := hrel
        have hbz := hbr.size
        by_cases hjl : j < 64
        · obtain ⟨g, rfl, hgl, hcs⟩ := (hr64.below (Nat.le_refl _) hbr) (by rw [HL64.out]; omega)
          have cj := hcs j (by rw [HL64.out]; exact hjl)
          have hjl' : j < l64.length := by rw [HL64.out]; exact hjl
          have hpq := hq64 (l64.getD j 0) (by simp [List.getD, hjl'])
          obtain ⟨p, hp⟩ : ∃ p, l64.getD j 0 = p := ⟨_, rfl⟩
          have HM := Lib.hid (map_next (f := wr3) l64 j p hjl' hp)
          have HO := Lib.hid hown
          have hlen : (r64.take j).length = j := by rw [List.length_take, HRL64.out]; omega
          have HLN := Lib.hid hlen
          rw [hp] at cj hpq
          have hcall := fun W => wr3_at p hpq W
          obtain ⟨y, hy⟩ : ∃ y, wr3 p = y := ⟨_, rfl⟩
          rw [hy] at hcall
          have HY := Lib.hid hy
          clear hcs hp hown hlen hy hjl'
          obtain ⟨rj, hrj⟩ : ∃ q, r64.take j = q := ⟨_, rfl⟩
          have HRJ := Lib.hid (show r64.take (j + 1) = rj ++ [y] by rw [← HR64.out, HM.out, HR64.out, hrj, HY.out])
          rw [hrj] at HO HLN
          clear hrj
          go_wp2_with (first | (go_at_call 24; (with_reducible refine (hcall _).mono ?_); rintro e w' ⟨rfl, rfl⟩) | (at_builtin; refine appW rfl _ _ rfl wr w2 w2.heap.size w2.heap.size _ rj j HLN.out y rfl (by exact HO.out) rfl (by omega) (by omega) (Nat.le_refl _) hbr ?_))
          intro A3 c3 w3 hown3 hrw3 hb3
          go_wp2
          go_roundw
          case rel => exact ⟨j + 1, A3, c3, by omega, by go_num, rfl, by rw [HRJ.out]; exact hown3, by rw [HRJ.out]; exact hrw3, hb3⟩
          case measure => simp [RowKit.intOf]; omega
        · obtain rfl : j = 64 := by omega
          rw [List.take_of_length_le (by rw [HRL64.out]; exact Nat.le_refl _)] at hrw
          have HF1 : ∀ u : List W32, u = r8 → RW wr AF u := fun u hu => by rw [hu]; exact HRW2.out.below (Nat.le_refl _) hbr
          have HF2 := Lib.hid hrw
          clear hown hrw
          go_wp2
          go_ret2
          exact ⟨⟨_, _, _, _, rfl, HF1 _ ((show l8.map wr2 = lstOf H0 from HT8.out).symm.trans HR8.out), (show l64.map wr3 = K0 from HT64.out) ▸ HR64.out ▸ HF2.out⟩, hbw2.trans (hbr.mono hbw2.size)⟩
end Go.Proofs.YtkgmkblcofedbaaDoor
