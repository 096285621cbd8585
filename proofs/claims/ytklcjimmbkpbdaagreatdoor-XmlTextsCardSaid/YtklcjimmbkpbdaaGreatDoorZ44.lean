/-
  The document's tape of XML: its state, what stands next, words. No conditions.
-/
import Derived.Test.YtklcjimmbkpbdaaGreatDoorZ21
import Derived.StillTailTactics
import Derived.Deep.QuietTactic
import Derived.BigQuiet
namespace Go.Proofs.YtklcjimmbkpbdaaGreatDoor
open Go.RowKit
open Go.Lib

abbrev TT : TypeId := 62
/-- The tape at block X holds s and has been read up to a place. -/
def TS (X : Nat) (s : Bt) (k : Nat) (w : World) : Prop := Blk X (.cells #[.string (bs s), .int .i64 k] TT (0, 0)) w
theorem TS.c0 {X : Nat} {s : Bt} {k : Nat} {w : World} (h : TS X s k w) : w.cell? ⟨X, 0, none⟩ = some (.string (bs s)) := Blk.cell h 0
theorem TS.c1 {X : Nat} {s : Bt} {k : Nat} {w : World} (h : TS X s k w) : w.cell? ⟨X, 1, none⟩ = some (.int .i64 k) := Blk.cell h 1
theorem TS.free {X : Nat} {s : Bt} {k : Nat} {w : World} (h : TS X s k w) (j : Nat) : w.frozen? ⟨X, j, none⟩ = false := Blk.free h j
theorem TS.below {X : Nat} {s : Bt} {k : Nat} {w w' : World} (h : TS X s k w) (hb : Below w.heap.size w w') : TS X s k w' := (Off.of_below hb).blk h (fun h => h)
theorem TS.set {X : Nat} {s : Bt} {k : Nat} {w : World} (h : TS X s k w) (k' : Nat) : TS X s k' (w.setCell ⟨X, 1, none⟩ (.int .i64 k')) := Blk.set h 1 (.int .i64 k')
theorem TS.lt {X : Nat} {s : Bt} {k : Nat} {w : World} (h : TS X s k w) : X < w.heap.size := Blk.lt h
theorem TS.off {X : Nat} {s : Bt} {k : Nat} {w w' : World} {F : Nat → Prop} (h : TS X s k w) (ho : Off F w w') (hF : ¬ F X) : TS X s k w' := ho.blk h hF
theorem Off.drewN {F : Nat → Prop} {w w' : World} (h : Off F w w') (n : Nat) : Off F w (w'.drewN n) := h.trans (Off.of_below (below_drewN (Below.refl _ _) n)) (fun _ h => h.elim)
theorem TS.drewN {X : Nat} {s : Bt} {k : Nat} {w : World} (h : TS X s k w) (n : Nat) : TS X s k (w.drewN n) := h.below (below_drewN (Below.refl _ _) n)
theorem drop_a8 (s : Bt) (k : Nat) (h : k < s.length) : s.drop k = s[k] :: s.drop (k + 1) := List.drop_eq_getElem_cons h
theorem slice_mid (s : Bt) (k m : Nat) (z : Int) (hz : z = (k : Int) + (m : Int)) (h : k + m ≤ s.length) (r : Bt) (hr : (s.drop k).take m = r) (W : World) : (Instr.slice 9 (.string (bs s)) (some (.int .i64 k)) (some (.int .i64 z)) none).run Tryz.prog W = .ok (.string (bs r)) W := by
  subst hz hr
  have hsz := bs_size s
  refine (run_slice_string (P := Tryz.prog) W 9 (bs s) .i64 .i64 (k : Int) ((k : Int) + (m : Int)) Tryz.underlying9 (by omega) (by omega) (by omega)).trans ?_
  congr 2
  apply ByteArray.ext
  apply Array.ext'
  rw [show ((k : Int)).toNat = k from by omega, show ((k : Int) + (m : Int)).toNat = k + m from by omega]
  unfold bs
  simp [ByteArray.data_extract, List.take_drop]
theorem pre_take8 (w t : Bt) : w.isPrefixOf t = (decide (w.length ≤ t.length) && (t.take w.length == w)) := by
  by_cases h : w.isPrefixOf t = true
  · rw [h]
    obtain ⟨r, rfl⟩ := List.isPrefixOf_iff_prefix.1 h
    simp
  · have hf : w.isPrefixOf t = false := Bool.eq_false_iff.2 h
    rw [hf]
    symm
    rw [Bool.and_eq_false_iff]
    refine .inr (beq_eq_false_iff_ne.2 fun e => h ?_)
    rw [List.isPrefixOf_iff_prefix, ← e]
    exact List.take_prefix _ _
def atOf (X : Nat) (w : World) : Nat := match w.cell? ⟨X, 1, none⟩ with | some (.int _ z) => z.toNat | _ => 0
theorem TS.at {X : Nat} {s : Bt} {k : Nat} {w : World} (h : TS X s k w) : atOf X w = k := by
  unfold atOf
  rw [h.c1]
  rfl
/-- Does a word stand at a place? -/
def preB (s : Bt) (k : Nat) (wd : Bt) : Bool := wd.isPrefixOf (s.drop k)
set_option maxRecDepth 100000 in
set_option maxHeartbeats 2000000 in
theorem tlooks_any {X : Nat} {s : Bt} {k : Nat} {w : World} (h : TS X s k w) (hk : k ≤ s.length + 1) (hs : s.length ≤ 1000000000) (wd : Bt) (h0 : wd ≠ []) (hw : wd.length ≤ 1000) (ob : Bool) (hob : preB s k wd = ob) :
    Calls Tryz.prog 31 #[.pointer (some ⟨X, 0, none⟩), .string (bs wd)] w fun e w' => e = .returned (.bool ob) ∧ Below w.heap.size w w' := by
  obtain ⟨n, hn⟩ : ∃ n, s.length = n := ⟨_, rfl⟩
  obtain ⟨m, hm⟩ : ∃ n, wd.length = n := ⟨_, rfl⟩
  have hm0 : 0 < m := by rw [← hm]; exact List.length_pos_iff.2 h0
  have hsz : (bs s).size = n := by rw [bs_size, hn]
  have hwz : (bs wd).size = m := by rw [bs_size, hm]
  unfold preB at hob
  rw [pre_take8, List.length_drop, hn, hm] at hob
  rw [hn] at hk hs
  rw [hm] at hw
  have c0 := h.c0
  have c1 := h.c1
  have hwr : IntKind.i64.wrap ((n : Int) - (k : Int)) = (n : Int) - (k : Int) := IntWalk.i64_in _ (by omega)
  by_cases hlt : m ≤ n - k
  · obtain ⟨x, hx⟩ : ∃ x, (s.drop k).take m = x := ⟨_, rfl⟩
    have hsl : ∀ W, (Instr.slice 9 (.string (bs s)) (some (.int .i64 k)) (some (.int .i64 ((k : Int) + (m : Int)))) none).run Tryz.prog W = .ok (.string (bs x)) W := fun W => slice_mid s k m _ rfl (by omega) x hx W
    have heq : ((bs x).toList == (bs wd).toList) = ob := by rw [eqS8, ← hob, hx, decide_eq_true hlt, Bool.true_and]
    have hwr2 : IntKind.i64.wrap ((k : Int) + (m : Int)) = (k : Int) + (m : Int) := IntWalk.i64_in _ (by omega)
    have hdk : decide ((m : Int) ≤ (n : Int) - (k : Int)) = true := decide_eq_true (by omega)
    have i0' : (0 : Int) ≤ (k : Int) := by omega
    have i1' : (k : Int) ≤ (k : Int) + (m : Int) := by omega
    have i2' : (k : Int) + (m : Int) ≤ (n : Int) := by omega
    clear hob hx hn hm h h0
    go_enter Tryz.func31, Tryz.ntmps31
    go_wp2
    go_quiet (fail)
    go_wp2
    go_ret
    exact ⟨rfl, below_drewN (Below.refl _ _) _⟩
  · have hof : false = ob := by rw [← hob, decide_eq_false hlt]; rfl
    subst hof
    have hdk : decide ((m : Int) ≤ (n : Int) - (k : Int)) = false := decide_eq_false (by omega)
    clear hob hn hm h h0
    go_enter Tryz.func31, Tryz.ntmps31
    go_wp2
    go_quiet (fail)
    go_wp2
    go_ret
    exact ⟨rfl, below_drewN (Below.refl _ _) _⟩
set_option maxRecDepth 100000 in
set_option maxHeartbeats 2000000 in
theorem tword_any {X : Nat} {s : Bt} {k : Nat} {w : World} (h : TS X s k w) (hk : k ≤ s.length + 1) (hs : s.length ≤ 1000000000) (wd : Bt) (h0 : wd ≠ []) (hw : wd.length ≤ 1000) (ob : Bool) (hob : preB s k wd = ob) :
    Calls Tryz.prog 33 #[.pointer (some ⟨X, 0, none⟩), .string (bs wd)] w fun e w' => e = .returned (.bool ob) ∧ TS X s (if ob then k + wd.length else k) w' ∧ Off (fun b => b = X) w w' := by
  have HL := Lib.hid (tlooks_any h hk hs wd h0 hw ob hob)
  obtain ⟨m, hm⟩ : ∃ n, wd.length = n := ⟨_, rfl⟩
  have hwz : (bs wd).size = m := by rw [bs_size, hm]
  have H0 := Lib.hid h
  have hkb : k ≤ 1000000001 := by omega
  rw [hm] at hw ⊢
  have hwr2 : IntKind.i64.wrap ((k : Int) + (m : Int)) = (k : Int) + (m : Int) := IntWalk.i64_in _ (by omega)
  clear h hob h0 hk hs hm
  cases ob with
  | false =>
    go_enter Tryz.func33, Tryz.ntmps33
    go_wp2_with (go_at_call 31; (with_reducible refine HL.out.mono ?_); rintro e w1 ⟨rfl, b1⟩)
    go_ret
    exact ⟨rfl, H0.out.below b1, (Off.of_below b1).mono (fun _ h => h.elim)⟩
  | true =>
    go_enter Tryz.func33, Tryz.ntmps33
    go_wp2_with (go_at_call 31; (with_reducible refine HL.out.mono ?_); rintro e w1 ⟨rfl, b1⟩; have h1 := H0.out.below b1; have z1 := h1.c1; have zf := h1.free 1; have HO1 := Lib.hid ((Off.of_below b1).mono (G := fun b => b = X) (fun _ h => h.elim)); have HN1 : Hid (TS X s (k + m) (w1.setCell ⟨X, 1, none⟩ (.int .i64 ((k : Int) + (m : Int))))) := Lib.hid (h1.set (k + m)); clear h1 b1)
    go_ret
    exact ⟨rfl, HN1.out, HO1.out.trans (off_set8 _ _ _ _) (fun _ h => .inl h)⟩
end Go.Proofs.YtklcjimmbkpbdaaGreatDoor
