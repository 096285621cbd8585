/-
  Of the proofs of layer 7 (values of JSON): the parts JA JB JC JD. No conditions.
-/
import Derived.Test.YtchgelfomnbpaaaDoorZ03
import Derived.Test.YtchgelfomnbpaaaDoorZ06
namespace Go.Proofs.YtchgelfomnbpaaaDoor
open Go.RowKit
open Go.Lib

abbrev TT : TypeId := 57
/-- The tape at block X holds s and has been read up to a place. -/
def TS (X : Nat) (s : Bt) (k : Nat) (w : World) : Prop := Blk X (.cells #[.string (bs s), .int .i64 k] TT (0, 0)) w
theorem TS.c0 {X : Nat} {s : Bt} {k : Nat} {w : World} (h : TS X s k w) : w.cell? ⟨X, 0, none⟩ = some (.string (bs s)) := Blk.cell h 0
theorem TS.c1 {X : Nat} {s : Bt} {k : Nat} {w : World} (h : TS X s k w) : w.cell? ⟨X, 1, none⟩ = some (.int .i64 k) := Blk.cell h 1
theorem TS.free {X : Nat} {s : Bt} {k : Nat} {w : World} (h : TS X s k w) (j : Nat) : w.frozen? ⟨X, j, none⟩ = false := Blk.free h j
theorem TS.below {X : Nat} {s : Bt} {k : Nat} {w w' : World} (h : TS X s k w) (hb : Below w.heap.size w w') : TS X s k w' := (Off.of_below hb).blk h (fun h => h)
theorem TS.set {X : Nat} {s : Bt} {k : Nat} {w : World} (h : TS X s k w) (k' : Nat) : TS X s k' (w.setCell ⟨X, 1, none⟩ (.int .i64 k')) := Blk.set h 1 (.int .i64 k')
theorem off_set7 (w : World) (X j : Nat) (v : Value) : Off (fun k => k = X) w (w.setCell ⟨X, j, none⟩ v) := (Off.of_grown (grown_set w X j v)).mono (fun _ h => (Option.some.inj h).symm)
theorem Off.drewN {F : Nat → Prop} {w w' : World} (h : Off F w w') (n : Nat) : Off F w (w'.drewN n) := h.trans (Off.of_below (below_drewN (Below.refl _ _) n)) (fun _ h => h.elim)
theorem TS.drewN {X : Nat} {s : Bt} {k : Nat} {w : World} (h : TS X s k w) (n : Nat) : TS X s k (w.drewN n) := h.below (below_drewN (Below.refl _ _) n)
/-- The byte at a place of a text. -/
theorem byte_run (s : Bt) (k : Nat) (z : Int) (h : k < s.length) (hz : (s[k].toNat : Int) = z) (W : World) : (Instr.index 9 (.string (bs s)) (.int .i64 k)).run Tryd.prog W = .ok (.int .u8 z) W := by
  subst hz
  have hk : k < (bs s).size := by rw [bs_size]; exact h
  have h2 := run_index_string (P := Tryd.prog) W 9 (bs s) .i64 (k : Int) Tryd.underlying9
  rw [dif_pos ⟨by omega, by omega⟩] at h2
  have e : (bs s)[((k : Int)).toNat]'(by omega) = s[k] := by
    show (bs s).data[((k : Int)).toNat]'_ = s[k]
    simp only [bs]
    rfl
  rw [e] at h2
  exact h2
theorem drop_a7 (s : Bt) (k : Nat) (h : k < s.length) : s.drop k = s[k] :: s.drop (k + 1) := List.drop_eq_getElem_cons h
end Go.Proofs.YtchgelfomnbpaaaDoor
namespace Go.Proofs.YtchgelfomnbpaaaDoor
open Go.RowKit
open Go.Lib

def atOf (X : Nat) (w : World) : Nat := match w.cell? ⟨X, 1, none⟩ with | some (.int _ z) => z.toNat | _ => 0
theorem TS.at {X : Nat} {s : Bt} {k : Nat} {w : World} (h : TS X s k w) : atOf X w = k := by
  unfold atOf
  rw [h.c1]
  rfl
theorem bl_num {c : UInt8} (h : isBl c = false) : ((c.toNat : Int) == 32) = false ∧ ((c.toNat : Int) == 9) = false ∧ ((c.toNat : Int) == 10) = false ∧ ((c.toNat : Int) == 13) = false := by
  unfold isBl at h
  simp only [Bool.or_eq_false_iff, beq_eq_false_iff_ne] at h
  obtain ⟨⟨⟨h1, h2⟩, h3⟩, h4⟩ := h
  have ne : ∀ d : UInt8, c ≠ d → ((c.toNat : Int) == (d.toNat : Int)) = false := fun d hd => by
    rw [beq_eq_false_iff_ne]
    intro e
    have e2 : c.toNat = d.toNat := by omega
    exact hd (UInt8.toNat_inj.1 e2)
  exact ⟨ne 32 h1, ne 9 h2, ne 10 h3, ne 13 h4⟩
set_option maxRecDepth 100000 in
set_option maxHeartbeats 2000000 in
theorem tblanks_any {X : Nat} {s : Bt} {k : Nat} {w : World} (h : TS X s k w) (hk : k ≤ s.length) (hs : s.length ≤ 1000000000) :
    Calls Tryd.prog 24 #[.pointer (some ⟨X, 0, none⟩)] w fun e w' => e = .returned (.tuple #[]) ∧ ∃ k', k ≤ k' ∧ k' ≤ s.length ∧ s.drop k' = blanksL (s.drop k) ∧ TS X s k' w' ∧ Off (fun b => b = X) w w' := by
  obtain ⟨n, hn⟩ : ∃ n, s.length = n := ⟨_, rfl⟩
  have hsz : (bs s).size = n := by rw [bs_size, hn]
  have HN := Lib.hid hn
  rw [hn] at hk hs
  have H0 := Lib.hid h
  clear hn h
  go_enter Tryd.func24, Tryd.ntmps24
  go_wp2
  go_loopw [] (fun wr => ∃ j, k ≤ j ∧ j ≤ n ∧ Hid (TS X s j wr) ∧ Hid (blanksL (s.drop j) = blanksL (s.drop k)) ∧ Hid (Off (fun b => b = X) w wr)) (fun wr => n - atOf X wr)
  case atStart => exact ⟨k, Nat.le_refl _, hk, H0, Lib.hid rfl, Lib.hid (Off.refl _ _)⟩
  case round =>
    clear H0
    obtain ⟨j, hkj, hjn, HT, HB, HO⟩ := hrel
    have hat := HT.out.at
    have HAT := Lib.hid hat
    clear hat
    have c0 := HT.out.c0
    have c1 := HT.out.c1
    by_cases hjl : j < n
    · have hjs : j < s.length := by rw [HN.out]; exact hjl
      have hdr := drop_a7 s j hjs
      obtain ⟨c, hc⟩ : ∃ c, s[j] = c := ⟨_, rfl⟩
      have hdk : decide ((j : Int) < (n : Int)) = true := decide_eq_true (by omega)
      have i0' : (0 : Int) ≤ (j : Int) := by omega
      have i1' : (j : Int) < (n : Int) := by omega
      have HDR := Lib.hid hdr
      have HC := Lib.hid hc
      clear hdr
      by_cases hb : isBl c = true
      · have HB2 : Hid (blanksL (s.drop (j + 1)) = blanksL (s.drop k)) := Lib.hid (by
          rw [← HB.out, HDR.out, HC.out]
          unfold blanksL
          rw [List.dropWhile_cons_of_pos hb])
        rcases bl_eq hb with rfl | rfl | rfl | rfl
        · have hix := byte_run s j 32 hjs (by rw [hc]; rfl)
          clear hc hb
          go_wp2
          go_quiet (fail)
          obtain ⟨Z, hZ⟩ : ∃ Z, Z = wr.drewN nq := ⟨_, rfl⟩
          rw [← hZ]
          have hTZ : TS X s j Z := by rw [hZ]; exact HT.out.drewN nq
          have HOZ : Hid (Off (fun b => b = X) w Z) := Lib.hid (by rw [hZ]; exact HO.out.drewN nq)
          have z1 := hTZ.c1
          have zf := hTZ.free 1
          have HTZ := Lib.hid hTZ
          have HNW : Hid (TS X s (j + 1) (Z.setCell ⟨X, 1, none⟩ (.int .i64 ((j : Int) + 1)))) := Lib.hid (hTZ.set (j + 1))
          clear hTZ hZ
          go_wp2
          exact ⟨⟨j + 1, by omega, by omega, HNW, HB2, Lib.hid (HOZ.out.trans (off_set7 _ _ _ _) (fun _ h => .inl h))⟩, by rw [HNW.out.at, HAT.out]; omega⟩
        · have hix := byte_run s j 9 hjs (by rw [hc]; rfl)
          clear hc hb
          go_wp2
          go_quiet (fail)
          obtain ⟨Z, hZ⟩ : ∃ Z, Z = wr.drewN nq := ⟨_, rfl⟩
          rw [← hZ]
          have hTZ : TS X s j Z := by rw [hZ]; exact HT.out.drewN nq
          have HOZ : Hid (Off (fun b => b = X) w Z) := Lib.hid (by rw [hZ]; exact HO.out.drewN nq)
          have z1 := hTZ.c1
          have zf := hTZ.free 1
          have HTZ := Lib.hid hTZ
          have HNW : Hid (TS X s (j + 1) (Z.setCell ⟨X, 1, none⟩ (.int .i64 ((j : Int) + 1)))) := Lib.hid (hTZ.set (j + 1))
          clear hTZ hZ
          go_wp2
          exact ⟨⟨j + 1, by omega, by omega, HNW, HB2, Lib.hid (HOZ.out.trans (off_set7 _ _ _ _) (fun _ h => .inl h))⟩, by rw [HNW.out.at, HAT.out]; omega⟩
        · have hix := byte_run s j 10 hjs (by rw [hc]; rfl)
          clear hc hb
          go_wp2
          go_quiet (fail)
          obtain ⟨Z, hZ⟩ : ∃ Z, Z = wr.drewN nq := ⟨_, rfl⟩
          rw [← hZ]
          have hTZ : TS X s j Z := by rw [hZ]; exact HT.out.drewN nq
          have HOZ : Hid (Off (fun b => b = X) w Z) := Lib.hid (by rw [hZ]; exact HO.out.drewN nq)
          have z1 := hTZ.c1
          have zf := hTZ.free 1
          have HTZ := Lib.hid hTZ
          have HNW : Hid (TS X s (j + 1) (Z.setCell ⟨X, 1, none⟩ (.int .i64 ((j : Int) + 1)))) := Lib.hid (hTZ.set (j + 1))
          clear hTZ hZ
          go_wp2
          exact ⟨⟨j + 1, by omega, by omega, HNW, HB2, Lib.hid (HOZ.out.trans (off_set7 _ _ _ _) (fun _ h => .inl h))⟩, by rw [HNW.out.at, HAT.out]; omega⟩
        · have hix := byte_run s j 13 hjs (by rw [hc]; rfl)
          clear hc hb
          go_wp2
          go_quiet (fail)
          obtain ⟨Z, hZ⟩ : ∃ Z, Z = wr.drewN nq := ⟨_, rfl⟩
          rw [← hZ]
          have hTZ : TS X s j Z := by rw [hZ]; exact HT.out.drewN nq
          have HOZ : Hid (Off (fun b => b = X) w Z) := Lib.hid (by rw [hZ]; exact HO.out.drewN nq)
          have z1 := hTZ.c1
          have zf := hTZ.free 1
          have HTZ := Lib.hid hTZ
          have HNW : Hid (TS X s (j + 1) (Z.setCell ⟨X, 1, none⟩ (.int .i64 ((j : Int) + 1)))) := Lib.hid (hTZ.set (j + 1))
          clear hTZ hZ
          go_wp2
          exact ⟨⟨j + 1, by omega, by omega, HNW, HB2, Lib.hid (HOZ.out.trans (off_set7 _ _ _ _) (fun _ h => .inl h))⟩, by rw [HNW.out.at, HAT.out]; omega⟩
      · have hbf : isBl c = false := by simpa using hb
        obtain ⟨e1, e2, e3, e4⟩ := bl_num hbf
        obtain ⟨z, hz⟩ : ∃ z, (c.toNat : Int) = z := ⟨_, rfl⟩
        have hix := byte_run s j z hjs (by rw [hc]; exact hz)
        have HE : Hid (s.drop j = blanksL (s.drop k)) := Lib.hid (by rw [← HB.out, HDR.out, HC.out, blanks_keep hbf])
        rw [hz] at e1 e2 e3 e4
        clear hz hc hb hbf
        go_wp2
        go_quiet (fail)
        have HTZ := Lib.hid (HT.out.drewN nq)
        have HOZ := Lib.hid (HO.out.drewN nq)
        go_wp2
        go_end0
        exact ⟨rfl, j, hkj, by omega, HE.out, HTZ.out, HOZ.out⟩
    · obtain rfl : j = n := by omega
      have hdk : decide ((j : Int) < (j : Int)) = false := decide_eq_false (by omega)
      have HE : Hid (s.drop j = blanksL (s.drop k)) := Lib.hid (by rw [← HB.out, List.drop_of_length_le (by rw [HN.out]; exact Nat.le_refl _)]; rfl)
      go_wp2
      go_quiet (fail)
      have HTZ := Lib.hid (HT.out.drewN nq)
      have HOZ := Lib.hid (HO.out.drewN nq)
      go_wp2
      go_end0
      exact ⟨rfl, j, hkj, by rw [HN.out]; exact Nat.le_refl _, HE.out, HTZ.out, HOZ.out⟩
/-- The byte that stands next; 0: none. -/
def nextZ (s : Bt) (k : Nat) : Int := match s.drop k with | [] => 0 | c :: _ => (c.toNat : Int)
set_option maxRecDepth 100000 in
theorem tnext_any {X : Nat} {s : Bt} {k : Nat} {w : World} (h : TS X s k w) (hk : k ≤ s.length)  :
    Calls Tryd.prog 36 #[.pointer (some ⟨X, 0, none⟩)] w fun e w' => e = .returned (.int .u8 (nextZ s k)) ∧ Below w.heap.size w w' := by
  obtain ⟨n, hn⟩ : ∃ n, s.length = n := ⟨_, rfl⟩
  have hsz : (bs s).size = n := by rw [bs_size, hn]
  have HN := Lib.hid hn
  rw [hn] at hk
  have c0 := h.c0
  have c1 := h.c1
  have H0 := Lib.hid h
  clear hn h
  by_cases hl : k < n
  · have hks : k < s.length := by rw [HN.out]; exact hl
    obtain ⟨z, hz⟩ : ∃ z, (s[k].toNat : Int) = z := ⟨_, rfl⟩
    have hix := byte_run s k z hks hz
    have hq : nextZ s k = z := by unfold nextZ; rw [drop_a7 s k hks]; exact hz
    have hdk : decide ((k : Int) < (n : Int)) = true := decide_eq_true (by omega)
    have i0' : (0 : Int) ≤ (k : Int) := by omega
    have i1' : (k : Int) < (n : Int) := by omega
    rw [hq]
    clear hz hq
    go_enter Tryd.func36, Tryd.ntmps36
    go_wp2
    go_quiet (fail)
    have hT1 := H0.out.drewN nq
    have c0 := hT1.c0
    have c1 := hT1.c1
    have hb1 : Below w.heap.size w (w.drewN nq) := below_drewN (Below.refl _ _) nq
    obtain ⟨Z, hZ⟩ : ∃ Z, w.drewN nq = Z := ⟨_, rfl⟩
    rw [hZ] at c0 c1 hb1 ⊢
    have HB := Lib.hid hb1
    clear hT1 hZ hb1
    go_wp2
    go_quiet (fail)
    go_wp2
    go_ret
    exact ⟨rfl, below_drewN HB.out _⟩
  · have hq : nextZ s k = 0 := by unfold nextZ; rw [List.drop_of_length_le (by rw [HN.out]; omega)]
    have hdk : decide ((k : Int) < (n : Int)) = false := decide_eq_false (by omega)
    rw [hq]
    go_enter Tryd.func36, Tryd.ntmps36
    go_wp2
    go_quiet (fail)
    go_wp2
    go_ret
    exact ⟨rfl, below_drewN (Below.refl _ _) _⟩
end Go.Proofs.YtchgelfomnbpaaaDoor
namespace Go.Proofs.YtchgelfomnbpaaaDoor
open Go.RowKit
open Go.Lib

theorem slice_mid (s : Bt) (k m : Nat) (z : Int) (hz : z = (k : Int) + (m : Int)) (h : k + m ≤ s.length) (r : Bt) (hr : (s.drop k).take m = r) (W : World) : (Instr.slice 9 (.string (bs s)) (some (.int .i64 k)) (some (.int .i64 z)) none).run Tryd.prog W = .ok (.string (bs r)) W := by
  subst hz hr
  have hsz := bs_size s
  refine (run_slice_string (P := Tryd.prog) W 9 (bs s) .i64 .i64 (k : Int) ((k : Int) + (m : Int)) Tryd.underlying9 (by omega) (by omega) (by omega)).trans ?_
  congr 2
  apply ByteArray.ext
  apply Array.ext'
  rw [show ((k : Int)).toNat = k from by omega, show ((k : Int) + (m : Int)).toNat = k + m from by omega]
  unfold bs
  simp [ByteArray.data_extract, List.take_drop]
theorem pre_take7 (w t : Bt) : w.isPrefixOf t = (decide (w.length ≤ t.length) && (t.take w.length == w)) := by
  by_cases h : w.isPrefixOf t = true
  · rw [h]
    obtain ⟨r, rfl⟩ := List.isPrefixOf_iff_prefix.1 h
    simp
  · have hf : w.isPrefixOf t = false := Bool.eq_false_iff.2 h
    rw [hf]
    symm
    rw [Bool.and_eq_false_iff]
    refine .inr (beq_eq_false_iff_ne.2 fun e => h ?_)
    rw [List.isPrefixOf_iff_prefix, ← e]
    exact List.take_prefix _ _
theorem eqT_bool (a b : Bt) : ((bs a).toList == (bs b).toList) = (a == b) := by
  rw [Lib.toList_data, Lib.toList_data, bs_list, bs_list]
set_option maxRecDepth 100000 in
set_option maxHeartbeats 2000000 in
theorem tword_any {X : Nat} {s : Bt} {k : Nat} {w : World} (h : TS X s k w) (hk : k ≤ s.length) (hs : s.length ≤ 1000000000) (wd : Bt) (hw : wd.length ≤ 1000) (ob : Bool) (hob : wd.isPrefixOf (s.drop k) = ob) :
    Calls Tryd.prog 37 #[.pointer (some ⟨X, 0, none⟩), .string (bs wd)] w fun e w' => e = .returned (.bool ob) ∧ TS X s (if ob then k + wd.length else k) w' ∧ Off (fun b => b = X) w w' := by
  obtain ⟨n, hn⟩ : ∃ n, s.length = n := ⟨_, rfl⟩
  obtain ⟨m, hm⟩ : ∃ n, wd.length = n := ⟨_, rfl⟩
  have hsz : (bs s).size = n := by rw [bs_size, hn]
  have hwz : (bs wd).size = m := by rw [bs_size, hm]
  rw [pre_take7, List.length_drop, hn, hm] at hob
  rw [hn] at hk hs
  rw [hm] at hw ⊢
  have c0 := h.c0
  have c1 := h.c1
  have H0 := Lib.hid h
  have hwr : IntKind.i64.wrap ((n : Int) - (k : Int)) = (n : Int) - (k : Int) := IntWalk.i64_in _ (by omega)
  by_cases hlt : m ≤ n - k
  · obtain ⟨x, hx⟩ : ∃ x, (s.drop k).take m = x := ⟨_, rfl⟩
    have hsl : ∀ W, (Instr.slice 9 (.string (bs s)) (some (.int .i64 k)) (some (.int .i64 ((k : Int) + (m : Int)))) none).run Tryd.prog W = .ok (.string (bs x)) W := fun W => slice_mid s k m _ rfl (by omega) x hx W
    have heq : ((bs x).toList == (bs wd).toList) = ob := by rw [eqT_bool, ← hob, hx, decide_eq_true hlt, Bool.true_and]
    have hwr2 : IntKind.i64.wrap ((k : Int) + (m : Int)) = (k : Int) + (m : Int) := IntWalk.i64_in _ (by omega)
    have hdk : decide ((n : Int) - (k : Int) < (m : Int)) = false := decide_eq_false (by omega)
    have i0' : (0 : Int) ≤ (k : Int) := by omega
    have i1' : (k : Int) ≤ (k : Int) + (m : Int) := by omega
    have i2' : (k : Int) + (m : Int) ≤ (n : Int) := by omega
    clear hob hx hn hm h
    go_enter Tryd.func37, Tryd.ntmps37
    go_wp2
    go_quiet (fail)
    have hTZ := H0.out.drewN nq
    have HOZ : Hid (Off (fun b => b = X) w (w.drewN nq)) := Lib.hid ((Off.refl _ w).drewN nq)
    obtain ⟨Z, hZ⟩ : ∃ Z, w.drewN nq = Z := ⟨_, rfl⟩
    rw [hZ] at hTZ HOZ ⊢
    have z1 := hTZ.c1
    have zf := hTZ.free 1
    have HTZ := Lib.hid hTZ
    have HNW : Hid (TS X s (k + m) (Z.setCell ⟨X, 1, none⟩ (.int .i64 ((k : Int) + (m : Int))))) := Lib.hid (hTZ.set (k + m))
    clear hTZ hZ
    cases ob
    · go_wp2
      go_ret
      exact ⟨rfl, HTZ.out, HOZ.out⟩
    · go_wp2
      go_ret
      exact ⟨rfl, HNW.out, HOZ.out.trans (off_set7 _ _ _ _) (fun _ h => .inl h)⟩
  · have hof : false = ob := by rw [← hob, decide_eq_false hlt]; rfl
    subst hof
    have hdk : decide ((n : Int) - (k : Int) < (m : Int)) = true := decide_eq_true (by omega)
    clear hob hn hm h
    go_enter Tryd.func37, Tryd.ntmps37
    go_wp2
    go_quiet (fail)
    go_wp2
    go_ret
    exact ⟨rfl, H0.out.drewN nq, (Off.refl _ w).drewN nq⟩
end Go.Proofs.YtchgelfomnbpaaaDoor
namespace Go.Proofs.YtchgelfomnbpaaaDoor
open Go.RowKit
open Go.Lib

theorem dg_stop : ∀ (t : Bt) (j : Nat), j ≤ t.length → (t.take j).all (isD 10) = true → (∀ h : j < t.length, isD 10 t[j] = false) → dgL t = j
  | [], j, hj, _, _ => by
    have : j = 0 := by simpa using hj
    subst this
    rfl
  | c :: r, 0, _, _, h => by
    have := h (by simp)
    unfold dgL
    rw [List.takeWhile_cons_of_neg (by simpa using this)]
    rfl
  | c :: r, j + 1, hj, ha, h => by
    rw [List.take_succ_cons, List.all_cons, Bool.and_eq_true] at ha
    have ih := dg_stop r j (by simpa using hj) ha.2 (fun h' => by have := h (by simpa using h'); simpa using this)
    unfold dgL at ih ⊢
    rw [List.takeWhile_cons_of_pos ha.1, List.length_cons, ih]
def digV (c : UInt8) : Int := if digN c < 10 then digN c else -1
theorem digV_yes {c : UInt8} (h : isD 10 c = true) : digV c = digN c ∧ 0 ≤ digN c ∧ digN c ≤ 9 := by
  simp [isD] at h
  unfold digV
  rw [if_pos h.2]
  exact ⟨rfl, h.1, by omega⟩
theorem digV_no {c : UInt8} (h : isD 10 c = false) : digV c = -1 := by
  unfold digV
  split
  · rename_i h2
    have hb := digN_bd c
    have : ¬ 0 ≤ digN c := fun h3 => by
      have : isD 10 c = true := by simp [isD, h2, h3]
      rw [this] at h; cases h
    omega
  · rfl
set_option maxRecDepth 100000 in
theorem rdig_any (c : UInt8) (w : World) : Calls Tryd.prog 64 #[.int .u8 c.toNat, .int .i64 10] w fun e w' => e = .returned (.int .i64 (digV c)) ∧ w = w' := by
  have hc : c.toNat < 256 := UInt8.toNat_lt c
  have fin : ∀ (x y : Int), digN c = x → (x < 10 ∧ y = x ∨ 10 ≤ x ∧ y = -1) → y = digV c := by
    intro x y h1 h2
    unfold digV
    rw [h1]
    rcases h2 with ⟨h2, h3⟩ | ⟨h2, h3⟩
    · rw [if_pos h2, h3]
    · rw [if_neg (by omega), h3]
  have FIN := Lib.hid fin
  clear fin
  by_cases a : 48 ≤ c.toNat ∧ c.toNat ≤ 57
  · have HD := Lib.hid (show digN c = (c.toNat : Int) - 48 by unfold digN; rw [if_pos a])
    obtain ⟨a1, a2⟩ := a
    go_enter Tryd.func64, Tryd.ntmps64
    go_wp2
    go_ret
    exact ⟨ret_i6 (FIN.out _ _ HD.out (by omega)), rfl⟩
  by_cases b : 97 ≤ c.toNat ∧ c.toNat ≤ 102
  · have HD := Lib.hid (show digN c = (c.toNat : Int) - 97 + 10 by unfold digN; rw [if_neg a, if_pos b]; omega)
    obtain ⟨b1, b2⟩ := b
    go_enter Tryd.func64, Tryd.ntmps64
    go_wp2
    go_ret
    exact ⟨ret_i6 (FIN.out _ _ HD.out (by omega)), rfl⟩
  by_cases d : 65 ≤ c.toNat ∧ c.toNat ≤ 70
  · have HD := Lib.hid (show digN c = (c.toNat : Int) - 65 + 10 by unfold digN; rw [if_neg a, if_neg b, if_pos d]; omega)
    obtain ⟨d1, d2⟩ := d
    go_enter Tryd.func64, Tryd.ntmps64
    go_wp2
    go_ret
    exact ⟨ret_i6 (FIN.out _ _ HD.out (by omega)), rfl⟩
  · have HD := Lib.hid (show digN c = -1 by unfold digN; rw [if_neg a, if_neg b, if_neg d])
    go_enter Tryd.func64, Tryd.ntmps64
    go_wp2
    all_goals first | (exfalso; omega) | (go_ret; exact ⟨ret_i6 (FIN.out _ _ HD.out (by omega)), rfl⟩)
set_option maxRecDepth 100000 in
set_option maxHeartbeats 1000000 in
theorem rnum_any (t : Bt) (M : Nat) (w : World) (hM : t.length ≤ M) (hM2 : M ≤ 1000000000) : Calls Tryd.prog 47 #[.string (bs t), .int .i64 10, .int .i64 M] w fun e w' => (∃ z, e = .returned (.tuple #[.int .i64 z, .int .i64 (dgL t)])) ∧ w = w' := by
  obtain ⟨n, hn⟩ : ∃ n, t.length = n := ⟨_, rfl⟩
  have hsz : (bs t).size = n := by rw [bs_size, hn]
  have HN := Lib.hid hn
  rw [hn] at hM
  have HST := Lib.hid (dg_stop t)
  clear hn
  go_enter Tryd.func47, Tryd.ntmps47
  go_wp2
  go_loopw [8, 9] (fun v i wr => ∃ (z : Int) (j : Nat), j ≤ n ∧ v = .int .i64 z ∧ i = .int .i64 j ∧ Hid ((t.take j).all (isD 10) = true) ∧ wr = w) (fun _ i _ => n - (RowKit.intOf i).toNat)
  case atStart => exact ⟨0, 0, Nat.zero_le _, rfl, rfl, Lib.hid rfl, rfl⟩
  case round =>
    obtain ⟨z, j, hj, rfl, rfl, HA, rfl⟩ := hrel
    by_cases hjn : j < n
    · have hjt : j < t.length := by rw [HN.out]; exact hjn
      obtain ⟨c, hc⟩ : ∃ c, t[j] = c := ⟨_, rfl⟩
      obtain ⟨cz, hcz⟩ : ∃ z, (c.toNat : Int) = z := ⟨_, rfl⟩
      have hix := byte_run t j cz hjt (by rw [hc]; exact hcz)
      obtain ⟨dz, hdz⟩ : ∃ z, digV c = z := ⟨_, rfl⟩
      have HDG : Hid (∀ W, Calls Tryd.prog 64 #[.int .u8 cz, .int .i64 10] W fun e w' => e = .returned (.int .i64 dz) ∧ W = w') := Lib.hid (fun W => by
        rw [← hcz, ← hdz]
        exact rdig_any c W)
      have hjM : j < M := by omega
      have HC := Lib.hid hc
      by_cases hd : isD 10 c = true
      · obtain ⟨h1, h2, h3⟩ := digV_yes hd
        have hz0 : 0 ≤ dz := by rw [← hdz, h1]; exact h2
        have HA2 : Hid ((t.take (j + 1)).all (isD 10) = true) := Lib.hid (by
          rw [List.take_succ_eq_append_getElem hjt, List.all_append, HA.out, hc]
          simp [hd])
        clear hcz hdz hc h1 h2 h3 hd
        go_wp2_with (go_at_call 64; (with_reducible refine (HDG.out _).mono ?_); rintro e w1 ⟨rfl, rfl⟩)
        exact ⟨⟨_, j + 1, by omega, rfl, rfl, HA2, trivial⟩, by show n - ((j : Int) + 1).toNat < n - (j : Int).toNat; omega⟩
      · have hdf : isD 10 c = false := by simpa using hd
        have hz0 : dz = -1 := by rw [← hdz]; exact digV_no hdf
        subst hz0
        have hq := HST.out j (by rw [HN.out]; exact hj) HA.out (fun _ => by rw [HC.out]; exact hdf)
        have HQ := Lib.hid hq
        clear hcz hdz hc hd hdf hq
        go_wp2_with (go_at_call 64; (with_reducible refine (HDG.out _).mono ?_); rintro e w1 ⟨rfl, rfl⟩)
        go_ret2
        exact ⟨⟨z, by rw [HQ.out]; rfl⟩, rfl⟩
    · obtain rfl : j = n := by omega
      have hq := HST.out j (by rw [HN.out]; exact hj) HA.out (fun h => absurd h (by rw [HN.out]; exact Nat.lt_irrefl _))
      have HQ := Lib.hid hq
      clear hq
      go_wp2
      go_ret2
      exact ⟨⟨z, by rw [HQ.out]; rfl⟩, rfl⟩
end Go.Proofs.YtchgelfomnbpaaaDoor
