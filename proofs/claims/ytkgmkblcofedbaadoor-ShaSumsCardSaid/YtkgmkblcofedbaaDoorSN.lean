/-
  The walk of the program's schedule. Conditions: none beside the block's length.
-/
import Derived.Test.YtkgmkblcofedbaaDoorSM
import Derived.Test.YtkgmkblcofedbaaDoorSC
namespace Go.Proofs.YtkgmkblcofedbaaDoor
open Go.RowKit
open Go.Lib

def IsSched (l : List UInt8) (ws : List W32) : Prop := sched l = ws
set_option maxRecDepth 100000 in
theorem zw_at : ∀ i, i < 64 → (#[.int .u32 0, .int .u32 0, .int .u32 0, .int .u32 0, .int .u32 0, .int .u32 0, .int .u32 0, .int .u32 0, .int .u32 0, .int .u32 0, .int .u32 0, .int .u32 0, .int .u32 0, .int .u32 0, .int .u32 0, .int .u32 0, .int .u32 0, .int .u32 0, .int .u32 0, .int .u32 0, .int .u32 0, .int .u32 0, .int .u32 0, .int .u32 0, .int .u32 0, .int .u32 0, .int .u32 0, .int .u32 0, .int .u32 0, .int .u32 0, .int .u32 0, .int .u32 0, .int .u32 0, .int .u32 0, .int .u32 0, .int .u32 0, .int .u32 0, .int .u32 0, .int .u32 0, .int .u32 0, .int .u32 0, .int .u32 0, .int .u32 0, .int .u32 0, .int .u32 0, .int .u32 0, .int .u32 0, .int .u32 0, .int .u32 0, .int .u32 0, .int .u32 0, .int .u32 0, .int .u32 0, .int .u32 0, .int .u32 0, .int .u32 0, .int .u32 0, .int .u32 0, .int .u32 0, .int .u32 0, .int .u32 0, .int .u32 0, .int .u32 0, .int .u32 0] : Array Value)[i]? = some (wf [] i) := by
  have h : ∀ (n : Nat) (v : Value) (j : Nat), j < n → (List.replicate n v).toArray[j]? = some v := fun n v j hj => by simp [hj]
  intro i hi
  exact h 64 (.int .u32 0) i hi
set_option maxRecDepth 100000 in
set_option maxHeartbeats 4000000 in
theorem schedule_any (l : List UInt8) (hl : l.length = 64) (w : World) : Calls Tryd.prog 21 #[.agg (cellsB l).toArray] w fun e w' => e = .returned (.agg (cellsW (sched l)).toArray) ∧ Below w.heap.size w w' := by
  obtain ⟨w1, hw1⟩ : ∃ w1, w.alloc (.cells (cellsB l).toArray 46) = w1 := ⟨_, rfl⟩
  obtain ⟨w2, hw2⟩ : ∃ w2, w1.alloc (.cells #[.int .u32 0, .int .u32 0, .int .u32 0, .int .u32 0, .int .u32 0, .int .u32 0, .int .u32 0, .int .u32 0, .int .u32 0, .int .u32 0, .int .u32 0, .int .u32 0, .int .u32 0, .int .u32 0, .int .u32 0, .int .u32 0, .int .u32 0, .int .u32 0, .int .u32 0, .int .u32 0, .int .u32 0, .int .u32 0, .int .u32 0, .int .u32 0, .int .u32 0, .int .u32 0, .int .u32 0, .int .u32 0, .int .u32 0, .int .u32 0, .int .u32 0, .int .u32 0, .int .u32 0, .int .u32 0, .int .u32 0, .int .u32 0, .int .u32 0, .int .u32 0, .int .u32 0, .int .u32 0, .int .u32 0, .int .u32 0, .int .u32 0, .int .u32 0, .int .u32 0, .int .u32 0, .int .u32 0, .int .u32 0, .int .u32 0, .int .u32 0, .int .u32 0, .int .u32 0, .int .u32 0, .int .u32 0, .int .u32 0, .int .u32 0, .int .u32 0, .int .u32 0, .int .u32 0, .int .u32 0, .int .u32 0, .int .u32 0, .int .u32 0, .int .u32 0] 58) = w2 := ⟨_, rfl⟩
  obtain ⟨w3, hw3⟩ : ∃ w3, w2.alloc (.cells #[.int .u32 0, .int .u32 0, .int .u32 0, .int .u32 0, .int .u32 0, .int .u32 0, .int .u32 0, .int .u32 0, .int .u32 0, .int .u32 0, .int .u32 0, .int .u32 0, .int .u32 0, .int .u32 0, .int .u32 0, .int .u32 0, .int .u32 0, .int .u32 0, .int .u32 0, .int .u32 0, .int .u32 0, .int .u32 0, .int .u32 0, .int .u32 0, .int .u32 0, .int .u32 0, .int .u32 0, .int .u32 0, .int .u32 0, .int .u32 0, .int .u32 0, .int .u32 0, .int .u32 0, .int .u32 0, .int .u32 0, .int .u32 0, .int .u32 0, .int .u32 0, .int .u32 0, .int .u32 0, .int .u32 0, .int .u32 0, .int .u32 0, .int .u32 0, .int .u32 0, .int .u32 0, .int .u32 0, .int .u32 0, .int .u32 0, .int .u32 0, .int .u32 0, .int .u32 0, .int .u32 0, .int .u32 0, .int .u32 0, .int .u32 0, .int .u32 0, .int .u32 0, .int .u32 0, .int .u32 0, .int .u32 0, .int .u32 0, .int .u32 0, .int .u32 0] 58) = w3 := ⟨_, rfl⟩
  have r1 := World.rowIs_alloc w (cellsB l).toArray 46 (bf l) (fun i hi => by
    have hi' : i < l.length := by simpa [cellsB_length] using hi
    simpa using cellsB_at l i hi')
  have r2 := World.rowIs_alloc w1 #[.int .u32 0, .int .u32 0, .int .u32 0, .int .u32 0, .int .u32 0, .int .u32 0, .int .u32 0, .int .u32 0, .int .u32 0, .int .u32 0, .int .u32 0, .int .u32 0, .int .u32 0, .int .u32 0, .int .u32 0, .int .u32 0, .int .u32 0, .int .u32 0, .int .u32 0, .int .u32 0, .int .u32 0, .int .u32 0, .int .u32 0, .int .u32 0, .int .u32 0, .int .u32 0, .int .u32 0, .int .u32 0, .int .u32 0, .int .u32 0, .int .u32 0, .int .u32 0, .int .u32 0, .int .u32 0, .int .u32 0, .int .u32 0, .int .u32 0, .int .u32 0, .int .u32 0, .int .u32 0, .int .u32 0, .int .u32 0, .int .u32 0, .int .u32 0, .int .u32 0, .int .u32 0, .int .u32 0, .int .u32 0, .int .u32 0, .int .u32 0, .int .u32 0, .int .u32 0, .int .u32 0, .int .u32 0, .int .u32 0, .int .u32 0, .int .u32 0, .int .u32 0, .int .u32 0, .int .u32 0, .int .u32 0, .int .u32 0, .int .u32 0, .int .u32 0] 58 (wf []) (fun i hi => zw_at i hi)
  have r3 := World.rowIs_alloc w2 #[.int .u32 0, .int .u32 0, .int .u32 0, .int .u32 0, .int .u32 0, .int .u32 0, .int .u32 0, .int .u32 0, .int .u32 0, .int .u32 0, .int .u32 0, .int .u32 0, .int .u32 0, .int .u32 0, .int .u32 0, .int .u32 0, .int .u32 0, .int .u32 0, .int .u32 0, .int .u32 0, .int .u32 0, .int .u32 0, .int .u32 0, .int .u32 0, .int .u32 0, .int .u32 0, .int .u32 0, .int .u32 0, .int .u32 0, .int .u32 0, .int .u32 0, .int .u32 0, .int .u32 0, .int .u32 0, .int .u32 0, .int .u32 0, .int .u32 0, .int .u32 0, .int .u32 0, .int .u32 0, .int .u32 0, .int .u32 0, .int .u32 0, .int .u32 0, .int .u32 0, .int .u32 0, .int .u32 0, .int .u32 0, .int .u32 0, .int .u32 0, .int .u32 0, .int .u32 0, .int .u32 0, .int .u32 0, .int .u32 0, .int .u32 0, .int .u32 0, .int .u32 0, .int .u32 0, .int .u32 0, .int .u32 0, .int .u32 0, .int .u32 0, .int .u32 0] 58 (wf []) (fun i hi => zw_at i hi)
  have n1 : (cellsB l).toArray.size = 64 := by simp [cellsB_length, hl]
  have s1 : w1.heap.size = w.heap.size + 1 := by rw [← hw1]; simp
  have s2 : w2.heap.size = w.heap.size + 2 := by rw [← hw2]; simp [s1]
  have s3 : w3.heap.size = w.heap.size + 3 := by rw [← hw3]; simp [s2]
  have hb1 : Below w.heap.size w w1 := by rw [← hw1]; exact (Below.refl _ _).alloc (Nat.le_refl _) _
  have hb2 : Below w.heap.size w w2 := by rw [← hw2]; exact hb1.alloc hb1.size _
  have hb3 : Below w.heap.size w w3 := by rw [← hw3]; exact hb2.alloc hb2.size _
  rw [hw1, n1] at r1
  rw [hw2, s1] at r2
  rw [hw3, s2] at r3
  have q1 : w3.rowIs w.heap.size 46 64 (bf l) := by rw [← hw3, ← hw2]; exact (r1.alloc _).alloc _
  have q2 : w3.rowIs (w.heap.size + 1) 58 64 (wf []) := by rw [← hw3]; exact r2.alloc _
  have Q1 := Lib.hid q1
  have Q2 := Lib.hid q2
  have Q3 := Lib.hid r3
  have HS3 := Lib.hid s3
  have HL := Lib.hid hl
  clear r1 r2 r3 q1 q2 s3 hb1 hb2 hl n1
  go_enter Tryd.func21, Tryd.ntmps21
  go_wp2
  clear hw1 hw2 hw3 s1 s2
  go_loopw [9] (fun i wr => ∃ k : Nat, k ≤ 16 ∧ i = .int .i64 k ∧ wr.rowIs w.heap.size 46 64 (bf l) ∧ wr.rowIs (w.heap.size + 1) 58 64 (wf []) ∧ wr.rowIs (w.heap.size + 2) 58 64 (wf (base l k)) ∧ Below w.heap.size w wr) (fun i _ => 16 - (RowKit.intOf i).toNat)
  case atStart => exact ⟨0, by omega, rfl, Q1.out, Q2.out, Q3.out, hb3⟩
  case round =>
    obtain ⟨k, hk, rfl, q1, q2, q3, hbr⟩ := hrel
    clear Q1 Q2 Q3 hb3 HS3
    by_cases hlt : k < 16
    · have hd : decide ((k : Int) < 16) = true := by simpa using (by omega : (k : Int) < 16)
      go_wp2
      obtain ⟨V0, hV0⟩ : ∃ V0, V0 = wr := ⟨_, rfl⟩
      subst hV0
      go_loopw [12] (fun i wr => ∃ j : Nat, j ≤ 4 ∧ i = .int .i64 j ∧ wr.rowIs w.heap.size 46 64 (bf l) ∧ wr.rowIs (w.heap.size + 1) 58 64 (wf []) ∧ wr.rowIs (w.heap.size + 2) 58 64 (wf (base l k ++ [pw l k j])) ∧ Below w.heap.size w wr) (fun i _ => 4 - (RowKit.intOf i).toNat)
      case atStart => exact ⟨0, by omega, rfl, q1, q2, q3.congr (fun i _ => wf_zero i), hbr⟩
      case round =>
        obtain ⟨j, hj, rfl, t1, t2, t3, hbj⟩ := hrel
        clear q1 q2 q3 hbr
        by_cases hjl : j < 4
        · have c1 := t1.cell (i := 4 * k + j) (by omega)
          have c3 := t3.cell (i := k) (by omega)
          have f3 := t3.frozen k
          have e3 : wf (base l k ++ [pw l k j]) k = .int .u32 ((pw l k j).toNat : Int) := by unfold wf; simp [List.getD, base_len]
          rw [e3] at c3
          unfold bf at c1
          have x1 : ∀ W, (Instr.indexAt 58 (.pointer (some ⟨w.heap.size + 2, 0, none⟩)) (.int .i64 (k : Int))).run Tryd.prog W = .ok (.pointer (some ⟨w.heap.size + 2, k, none⟩)) W := fun W => ix_at W _ _ 64 _ _ k Tryd.underlying58 (size_u32 W) rfl (by omega)
          have x2 : ∀ W, (Instr.indexAt 46 (.pointer (some ⟨w.heap.size, 0, none⟩)) (.int .i64 (4 * (k : Int) + (j : Int)))).run Tryd.prog W = .ok (.pointer (some ⟨w.heap.size, 4 * k + j, none⟩)) W := fun W => ix_at W _ _ 64 _ _ (4 * k + j) Tryd.underlying46 (size_u8 W) (by omega) (by omega)
          have z1 : IntKind.i64.wrap (4 * (k : Int)) = 4 * (k : Int) := IntWalk.i64_in _ (by omega)
          have z2 : IntKind.i64.wrap (4 * (k : Int) + (j : Int)) = 4 * (k : Int) + (j : Int) := IntWalk.i64_in _ (by omega)
          obtain ⟨X8, hX8⟩ : ∃ X8, pw l k j <<< 8 = X8 := ⟨_, rfl⟩
          have z3 := w_shl8 (pw l k j)
          rw [hX8] at z3
          obtain ⟨b, hbv⟩ : ∃ b, l.getD (4 * k + j) 0 = b := ⟨_, rfl⟩
          rw [hbv] at c1
          have HBV := Lib.hid hbv
          have z4 : IntKind.u32.wrap (b.toNat : Int) = (b.toNat : Int) := by have := b.toNat_lt; rw [IntKind.wrap_u32]; omega
          obtain ⟨P1, hP1⟩ : ∃ P1, pw l k (j + 1) = P1 := ⟨_, rfl⟩
          have z5 : bits .or .u32 (X8.toNat : Int) (b.toNat : Int) = (P1.toNat : Int) := by rw [w_byte b, w_or, ← hX8, ← hP1, ← hbv]; rfl
          have HP := Lib.hid hP1
          clear hbv hX8 hP1
          go_wp2
          go_still_tail 14, (by kernel_rfl)
          change wpList _ _ _ _ _ wr.drew
          obtain ⟨V, hV⟩ : ∃ V, wr.drew = V := ⟨_, rfl⟩
          have t1' : V.rowIs _ _ _ _ := hV ▸ t1.drew
          have t2' : V.rowIs _ _ _ _ := hV ▸ t2.drew
          have t3' : V.rowIs _ _ _ _ := hV ▸ t3.drew
          have hbv : Below w.heap.size w V := hV ▸ hbj.drew
          have c3' := t3'.cell (i := k) (by omega)
          have f3' := t3'.frozen k
          rw [e3] at c3'
          rw [hV]
          clear hV c3 f3 c1
          go_wp2
          go_roundw
          case rel => exact ⟨j + 1, by omega, by go_num, t1'.setOther (a := ⟨w.heap.size + 2, k, none⟩) (by simp) _, t2'.setOther (a := ⟨w.heap.size + 2, k, none⟩) (by simp) _, (t3'.set k _).congr (fun i _ => by have := wf_set (ws := base l k) (x := pw l k j) (y := pw l k (j + 1)) i; rw [base_len] at this; rw [← HP.out]; exact this), hbv.setCell (p := ⟨w.heap.size + 2, k, none⟩) (by simp) _⟩
          case measure => simp [RowKit.intOf]; omega
        · obtain rfl : j = 4 := by omega
          have HB4 := Lib.hid (show base l k ++ [pw l k 4] = base l (k + 1) by rw [pw_four, base_snoc])
          go_wp2
          go_roundw
          case rel => exact ⟨k + 1, by omega, by go_num, t1, t2, by rw [← HB4.out]; exact t3, hbj⟩
          case measure => simp [RowKit.intOf]; omega
    · have hk16 : k = 16 := by omega
      have hge : 16 ≤ k := by omega
      have hd : decide ((k : Int) < 16) = false := by simpa using (by omega : (16 : Int) ≤ k)
      rw [hk16] at q3
      clear hk16 hlt
      obtain ⟨kk, hkk⟩ : ∃ kk, kk = k := ⟨_, rfl⟩
      subst hkk
      go_wp2
      replace q3 : wr.rowIs (w.heap.size + 2) 58 64 (wf (grow 0 (base l 16))) := q3
      go_loopw [6] (fun i wr => ∃ k : Nat, k ≤ 48 ∧ i = .int .i64 ((16 + k : Nat) : Int) ∧ wr.rowIs w.heap.size 46 64 (bf l) ∧ wr.rowIs (w.heap.size + 1) 58 64 (wf []) ∧ wr.rowIs (w.heap.size + 2) 58 64 (wf (grow k (base l 16))) ∧ Below w.heap.size w wr) (fun i _ => 64 - (RowKit.intOf i).toNat)
      case atStart => exact ⟨0, by omega, rfl, q1, q2, q3, hbr⟩
      case round =>
        clear q1 q2 q3 hbr
        clear hk
        obtain ⟨k, hk, rfl, t1, t2, t3, hbj⟩ := hrel
        have hg := grow_step k (base l 16) (base_len l 16)
        have hgl := grow_len k (base l 16)
        rw [base_len] at hgl
        by_cases hk2 : k < 48
        · obtain ⟨A16, h16⟩ : ∃ A, (grow k (base l 16)).getD k 0#32 = A := ⟨_, rfl⟩
          obtain ⟨A15, h15⟩ : ∃ A, (grow k (base l 16)).getD (k + 1) 0#32 = A := ⟨_, rfl⟩
          obtain ⟨A7, h7⟩ : ∃ A, (grow k (base l 16)).getD (k + 9) 0#32 = A := ⟨_, rfl⟩
          obtain ⟨A2, h2⟩ : ∃ A, (grow k (base l 16)).getD (k + 14) 0#32 = A := ⟨_, rfl⟩
          rw [h16, h15, h7, h2] at hg
          have c16 := t3.cell (i := k) (by omega)
          have c15 := t3.cell (i := k + 1) (by omega)
          have c7 := t3.cell (i := k + 9) (by omega)
          have c2 := t3.cell (i := k + 14) (by omega)
          have cI := t3.cell (i := 16 + k) (by omega)
          have fI := t3.frozen (16 + k)
          rw [wf_get h16] at c16
          rw [wf_get h15] at c15
          rw [wf_get h7] at c7
          rw [wf_get h2] at c2
          obtain ⟨I, hI⟩ : ∃ I, 16 + k = I := ⟨_, rfl⟩
          rw [hI] at cI fI ⊢
          have hIl : 16 ≤ I ∧ I < 64 := by omega
          obtain ⟨hI1, hI2⟩ := hIl
          obtain ⟨N15, hN15⟩ : ∃ N, k + 1 = N := ⟨_, rfl⟩
          obtain ⟨N7, hN7⟩ : ∃ N, k + 9 = N := ⟨_, rfl⟩
          obtain ⟨N2, hN2⟩ : ∃ N, k + 14 = N := ⟨_, rfl⟩
          rw [hN15] at c15
          rw [hN7] at c7
          rw [hN2] at c2
          have z16 : IntKind.i64.wrap ((I : Int) - 16) = (k : Int) := by rw [show (I : Int) - 16 = (k : Int) by omega]; exact IntWalk.i64_in _ (by omega)
          have z15 : IntKind.i64.wrap ((I : Int) - 15) = (N15 : Int) := by rw [show (I : Int) - 15 = (N15 : Int) by omega]; exact IntWalk.i64_in _ (by omega)
          have z7 : IntKind.i64.wrap ((I : Int) - 7) = (N7 : Int) := by rw [show (I : Int) - 7 = (N7 : Int) by omega]; exact IntWalk.i64_in _ (by omega)
          have z2 : IntKind.i64.wrap ((I : Int) - 2) = (N2 : Int) := by rw [show (I : Int) - 2 = (N2 : Int) by omega]; exact IntWalk.i64_in _ (by omega)
          have ix : ∀ (z : Nat) (W : World), z < 64 → (Instr.indexAt 58 (.pointer (some ⟨w.heap.size + 2, 0, none⟩)) (.int .i64 (z : Int))).run Tryd.prog W = .ok (.pointer (some ⟨w.heap.size + 2, z, none⟩)) W := fun z W hz => ix_at W _ _ 64 _ _ z Tryd.underlying58 (size_u32 W) rfl hz
          have x16 := fun W => ix k W (by omega)
          have x15 := fun W => ix N15 W (by omega)
          have x7 := fun W => ix N7 W (by omega)
          have x2 := fun W => ix N2 W (by omega)
          have xI := fun W => ix I W (by omega)
          have HI := Lib.hid hI
          have T7 : ∀ W, Calls Tryd.prog 22 #[.int .u32 (A15.toNat : Int), .int .i64 7] W (fun e w' => e = .returned (.int .u32 ((rotr A15 7).toNat : Int)) ∧ W = w') := fun W => turn_any A15 7 W (by decide) (by decide)
          have T18 : ∀ W, Calls Tryd.prog 22 #[.int .u32 (A15.toNat : Int), .int .i64 18] W (fun e w' => e = .returned (.int .u32 ((rotr A15 18).toNat : Int)) ∧ W = w') := fun W => turn_any A15 18 W (by decide) (by decide)
          have T17 : ∀ W, Calls Tryd.prog 22 #[.int .u32 (A2.toNat : Int), .int .i64 17] W (fun e w' => e = .returned (.int .u32 ((rotr A2 17).toNat : Int)) ∧ W = w') := fun W => turn_any A2 17 W (by decide) (by decide)
          have T19 : ∀ W, Calls Tryd.prog 22 #[.int .u32 (A2.toNat : Int), .int .i64 19] W (fun e w' => e = .returned (.int .u32 ((rotr A2 19).toNat : Int)) ∧ W = w') := fun W => turn_any A2 19 W (by decide) (by decide)
          have hs0 : sg0 A15 = rotr A15 7 ^^^ rotr A15 18 ^^^ A15 >>> 3 := rfl
          have hs1 : sg1 A2 = rotr A2 17 ^^^ rotr A2 19 ^^^ A2 >>> 10 := rfl
          obtain ⟨R7, hR7⟩ : ∃ R, rotr A15 7 = R := ⟨_, rfl⟩
          obtain ⟨R18, hR18⟩ : ∃ R, rotr A15 18 = R := ⟨_, rfl⟩
          obtain ⟨R17, hR17⟩ : ∃ R, rotr A2 17 = R := ⟨_, rfl⟩
          obtain ⟨R19, hR19⟩ : ∃ R, rotr A2 19 = R := ⟨_, rfl⟩
          obtain ⟨S3, hS3⟩ : ∃ R, A15 >>> 3 = R := ⟨_, rfl⟩
          obtain ⟨S10, hS10⟩ : ∃ R, A2 >>> 10 = R := ⟨_, rfl⟩
          rw [hR7] at T7
          rw [hR18] at T18
          rw [hR17] at T17
          rw [hR19] at T19
          rw [hR7, hR18, hS3] at hs0
          rw [hR17, hR19, hS10] at hs1
          have y1 := w_shr3 A15
          have y2 := w_shr10 A2
          rw [hS3] at y1
          rw [hS10] at y2
          obtain ⟨X1, hX1⟩ : ∃ R, R7 ^^^ R18 = R := ⟨_, rfl⟩
          obtain ⟨X2, hX2⟩ : ∃ R, R17 ^^^ R19 = R := ⟨_, rfl⟩
          obtain ⟨X3, hX3⟩ : ∃ R, X1 ^^^ S3 = R := ⟨_, rfl⟩
          obtain ⟨X4, hX4⟩ : ∃ R, X2 ^^^ S10 = R := ⟨_, rfl⟩
          obtain ⟨Y1, hY1⟩ : ∃ R, A16 + A7 = R := ⟨_, rfl⟩
          obtain ⟨Y2, hY2⟩ : ∃ R, Y1 + X3 = R := ⟨_, rfl⟩
          obtain ⟨Y3, hY3⟩ : ∃ R, Y2 + X4 = R := ⟨_, rfl⟩
          have u1 := w_xor R7 R18
          have u2 := w_xor R17 R19
          have u3 := w_xor X1 S3
          have u4 := w_xor X2 S10
          have u5 := w_addw A16 A7
          have u6 := w_addw Y1 X3
          have u7 := w_addw Y2 X4
          rw [hX1] at u1
          rw [hX2] at u2
          rw [hX3] at u3
          rw [hX4] at u4
          rw [hY1] at u5
          rw [hY2] at u6
          rw [hY3] at u7
          have HG := Lib.hid (show nextW (grow k (base l 16)) = Y3 by
            rw [hg, hs0, hs1, hX1, hX2, hX3, hX4, ← hY3, ← hY2, ← hY1, BitVec.add_assoc A16 X3 A7, BitVec.add_comm X3 A7, ← BitVec.add_assoc A16 A7 X3])
          have HGL := Lib.hid hgl
          clear hR7 hR18 hR17 hR19 hS3 hS10 hX1 hX2 hX3 hX4 hY1 hY2 hY3 hs0 hs1 hg hgl h16 h15 h7 h2 hN15 hN7 hN2 ix hI
          go_wp2
          go_quiet (fail)
          replace t1 : (wr.drewN nq).rowIs _ _ _ _ := t1
          replace t2 : (wr.drewN nq).rowIs _ _ _ _ := t2
          replace t3 : (wr.drewN nq).rowIs _ _ _ _ := t3
          replace c16 : (wr.drewN nq).cell? ⟨w.heap.size + 2, k, none⟩ = _ := c16
          replace c7 : (wr.drewN nq).cell? ⟨w.heap.size + 2, N7, none⟩ = _ := c7
          replace cI : (wr.drewN nq).cell? ⟨w.heap.size + 2, I, none⟩ = _ := cI
          replace fI : (wr.drewN nq).frozen? ⟨w.heap.size + 2, I, none⟩ = _ := fI
          replace hbj : Below w.heap.size w (wr.drewN nq) := below_drewN hbj _
          clear c15 c2
          generalize wr.drewN nq = V1 at *
          go_wp2
          go_still_tail 29, (by kernel_rfl)
          refine wpStill_step (fun K hK => ?_)
          go_simp
          refine ⟨_, (T7 _).mono (fun e w' ⟨h1, h2⟩ => ⟨h1, h2.symm⟩), hK _ ?_⟩
          clear hK K
          repeat still_step
          refine wpStill_step (fun K hK => ?_)
          go_simp
          refine ⟨_, (T18 _).mono (fun e w' ⟨h1, h2⟩ => ⟨h1, h2.symm⟩), hK _ ?_⟩
          clear hK K
          repeat still_step
          refine wpStill_step (fun K hK => ?_)
          go_simp
          refine ⟨_, (T17 _).mono (fun e w' ⟨h1, h2⟩ => ⟨h1, h2.symm⟩), hK _ ?_⟩
          clear hK K
          repeat still_step
          refine wpStill_step (fun K hK => ?_)
          go_simp
          refine ⟨_, (T19 _).mono (fun e w' ⟨h1, h2⟩ => ⟨h1, h2.symm⟩), hK _ ?_⟩
          clear hK K
          repeat still_step
          refine wpStill_nil ?_
          change wpList _ _ _ _ _ V1.drew
          replace t1 : V1.drew.rowIs _ _ _ _ := t1
          replace t2 : V1.drew.rowIs _ _ _ _ := t2
          replace t3 : V1.drew.rowIs _ _ _ _ := t3
          replace cI : V1.drew.cell? ⟨w.heap.size + 2, I, none⟩ = _ := cI
          replace fI : V1.drew.frozen? ⟨w.heap.size + 2, I, none⟩ = _ := fI
          replace hbj : Below w.heap.size w V1.drew := hbj.drew
          clear c16 c7
          generalize V1.drew = V2 at *
          go_wp2
          go_roundw
          case rel => exact ⟨k + 1, by omega, by rw [← HI.out]; go_num, t1.setOther (a := ⟨w.heap.size + 2, I, none⟩) (by simp) _, t2.setOther (a := ⟨w.heap.size + 2, I, none⟩) (by simp) _, (t3.set I _).congr (fun i _ => by
            have := wf_set (ws := grow k (base l 16)) (x := 0#32) (y := Y3) i
            rw [HGL.out, HI.out, ← wf_zero] at this
            rw [this, ← HG.out]
            rfl), hbj.setCell (p := ⟨w.heap.size + 2, I, none⟩) (by simp) _⟩
          case measure => simp [RowKit.intOf]; omega
        · have hk48 : k = 48 := by omega
          obtain ⟨ws, hws⟩ : ∃ ws, grow k (base l 16) = ws := ⟨_, rfl⟩
          have HS : ∀ v : List W32, v = ws → IsSched l v := fun v hv => by unfold IsSched sched; rw [hv, ← hws, hk48]
          have SL : ws.length = 64 := by rw [← hws, hgl]; omega
          obtain ⟨I, hI⟩ : ∃ I, 16 + k = I := ⟨_, rfl⟩
          rw [hI]
          rw [hws] at t3
          have hge2 : 64 ≤ I := by omega
          clear hg hgl hk48 hk2 hws hI
          have hrg := roww_range t3 SL
          have HR := Lib.hid hrg
          have HSL := Lib.hid SL
          clear hrg SL t3
          go_wp2_with (first | (guard_target =~ Go.wpList _ _ _ ({ dst := _, op := Go.Op.load 58 _, type := _, pos := _, after := _, guard := none } :: _) _ _; refine wpList_load_mid rfl 58 (.tmp 3) rfl (w.heap.size + 2) 0 rfl (cellsW ws) _ HR.out Tryd.underlying58 rfl (by rw [cellsW_length, HSL.out]; kernel_rfl) ?_) | (guard_target =~ Go.wpList _ _ _ ({ dst := none, op := Go.Op.store 58 _ _, type := _, pos := _, after := _, guard := none } :: _) _ _; refine wpList_store_row rfl rfl 58 (.tmp 2) (.tmp 72) rfl (w.heap.size + 1) 58 64 (wf []) (wf ws) (cellsW ws) rfl rfl t2 (by rw [cellsW_length, HSL.out]) (by kernel_rfl) (cellsW_one _) (fun j hj => cellsW_at _ j (by rw [HSL.out]; exact hj)) ?_))
          intro w' t2' hg'
          have hb' : Below w.heap.size w w' := hbj.grown hg' hbj.size (fun k hk => by cases hk; omega)
          have hld := run_loadVar_mid w' (w.heap.size + 1) 0 58 (cellsW ws) _ (roww_range t2' HSL.out) Tryd.underlying58 rfl (by rw [cellsW_length, HSL.out]; kernel_rfl)
          clear t1 t2 t2' hbj hg' HR
          go_wp2
          refine bodyPost_ret (v := .agg (cellsW ws).toArray) ?_ rfl ⟨by rw [show sched l = ws from HS ws rfl], hb'⟩
          simp [results, Tryd.results21, asAddr, hld]
end Go.Proofs.YtkgmkblcofedbaaDoor
