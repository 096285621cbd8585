/-
  Of the proof that disks answer every script as the document says: the parts VRF VRG VRH. No conditions.
-/
import Derived.Test.YtbodkjifpmencaaGreatY17
import Derived.Test.YtbodkjifpmencaaGreatY18
import Derived.Deep.RegionHeld3
import Derived.Deep.RegionWith
import Derived.Deep.CutBlock
namespace Go.Proofs.YtbodkjifpmencaaGreat
open Go.RowKit
open Go.Lib

set_option maxRecDepth 100000 in
theorem refcall_any {X : Nat} {w : World} (H : EmptyD X w) (r : Bool) : Calls Tryz.prog 58 #[.pointer (some ⟨X, 0, none⟩), .bool r] w fun e w' => e = .returned (.int .i64 (if r then 0 else 2)) ∧ w' = w := by
  have c5 := H.cell 5
  clear H
  cases r
  · go_enter Tryz.func58, Tryz.ntmps58
    go_wp2
    go_ret
    exact ⟨rfl, rfl⟩
  · go_enter Tryz.func58, Tryz.ntmps58
    go_wp2
    go_ret
    exact ⟨rfl, rfl⟩
set_option maxRecDepth 100000 in
theorem refused_any {X : Nat} {w : World} (H : EmptyD X w) : Calls Tryz.prog 13 #[.pointer (some ⟨X, 0, none⟩)] w fun e w' => e = .returned (.int .i64 0) ∧ w' = w := by
  have c2 := H.cell 2
  clear H
  go_enter Tryz.func13, Tryz.ntmps13
  go_wp2
  go_loopw [3, 11] (fun n i wr => n = .int .i64 0 ∧ i = .int .i64 0 ∧ wr = w) (fun _ _ _ => 0)
  case atStart => exact ⟨rfl, rfl, rfl⟩
  case round =>
    obtain ⟨rfl, rfl, rfl⟩ := hrel
    go_wp2
    go_ret
    exact ⟨rfl, rfl⟩
set_option maxRecDepth 100000 in
theorem refat_any (s : ByteArray) (w : World) : Calls Tryz.prog 36 #[.slice none 0 0, .string s] w fun e w' => e = .returned (.int .i64 (-1)) ∧ w' = w := by
  go_enter Tryz.func36, Tryz.ntmps36
  go_wp2
  go_loopw [9] (fun i wr => i = .int .i64 0 ∧ wr = w) (fun _ _ => 0)
  case atStart => exact ⟨rfl, rfl⟩
  case round =>
    obtain ⟨rfl, rfl⟩ := hrel
    go_wp2
    go_ret
    exact ⟨rfl, rfl⟩
set_option maxRecDepth 100000 in
theorem rdir_any (s : ByteArray) (w : World) (hs : s.size ≤ 281474976710656) : Calls Tryz.prog 41 #[.string s] w fun e w' => e = .returned (.string (bs (splitL s.data.toList).1)) ∧ Below w.heap.size w w' := by
  go_enter Tryz.func41, Tryz.ntmps41
  go_wp2_with (go_at_call 14; (with_reducible refine (rsplit_any s w hs).mono ?_); rintro e w1 ⟨rfl, b1⟩)
  go_ret
  exact ⟨rfl, b1⟩
theorem grown_of_below {w w' : World} (h : Below w.heap.size w w') (row : Option Nat) : w.grownBy w' row := ⟨h.os, h.tape, h.output, h.size, fun k hk _ => h.block k hk⟩
theorem EmptyD.below {X : Nat} {w w' : World} (h : EmptyD X w) (hb : Below w.heap.size w w') : EmptyD X w' := h.off (Off.of_below hb) (fun h => h)
set_option maxRecDepth 100000 in
theorem refappend_any {X : Nat} {w : World} (H : EmptyD X w) (s t : ByteArray) (hs : s.size ≤ 281474976710656) : Calls Tryz.prog 26 #[.pointer (some ⟨X, 0, none⟩), .string s, .string t] w fun e w' => (∃ z, e = .returned (.int .i64 z)) ∧ w.grownBy w' (some X) := by
  have HX := Lib.hid H
  obtain ⟨r, hr⟩ : ∃ r, rightL s.data.toList = r := ⟨_, rfl⟩
  have hri := rright_any s w hs
  rw [hr] at hri
  have HRI := Lib.hid hri
  clear hri hr H
  cases r
  · go_enter Tryz.func26, Tryz.ntmps26
    go_wp2_with (first
      | (go_at_call 59; (with_reducible refine HRI.out.mono ?_); rintro e w1 ⟨rfl, b1⟩)
      | (go_at_call 58; (with_reducible refine (refcall_any (HX.out.below b1) _).mono ?_); rintro e w2 ⟨rfl, rfl⟩))
    go_ret
    exact ⟨⟨_, rfl⟩, grown_of_below b1 _⟩
  · go_enter Tryz.func26, Tryz.ntmps26
    go_wp2_with (first
      | (go_at_call 59; (with_reducible refine HRI.out.mono ?_); rintro e w1 ⟨rfl, b1⟩
         have c2 := (HX.out.below b1).cell 2)
      | (go_at_call 58; (with_reducible refine (refcall_any (HX.out.below b1) _).mono ?_); rintro e w2 ⟨rfl, rfl⟩)
      | (go_at_call 36; (with_reducible refine (refat_any s _).mono ?_); rintro e w3 ⟨rfl, rfl⟩))
    go_ret
    exact ⟨⟨_, rfl⟩, grown_of_below b1 _⟩
set_option maxRecDepth 100000 in
theorem refremove_any {X : Nat} {w : World} (H : EmptyD X w) (s : ByteArray) (hs : s.size ≤ 281474976710656) : Calls Tryz.prog 30 #[.pointer (some ⟨X, 0, none⟩), .string s] w fun e w' => (∃ z, e = .returned (.int .i64 z)) ∧ w.grownBy w' (some X) := by
  have HX := Lib.hid H
  obtain ⟨r, hr⟩ : ∃ r, rightL s.data.toList = r := ⟨_, rfl⟩
  have hri := rright_any s w hs
  rw [hr] at hri
  have HRI := Lib.hid hri
  clear hri hr H
  cases r
  · go_enter Tryz.func30, Tryz.ntmps30
    go_wp2_with (first
      | (go_at_call 59; (with_reducible refine HRI.out.mono ?_); rintro e w1 ⟨rfl, b1⟩)
      | (go_at_call 58; (with_reducible refine (refcall_any (HX.out.below b1) _).mono ?_); rintro e w2 ⟨rfl, rfl⟩))
    go_ret
    exact ⟨⟨_, rfl⟩, grown_of_below b1 _⟩
  · go_enter Tryz.func30, Tryz.ntmps30
    go_wp2_with (first
      | (go_at_call 59; (with_reducible refine HRI.out.mono ?_); rintro e w1 ⟨rfl, b1⟩
         have c2 := (HX.out.below b1).cell 2)
      | (go_at_call 58; (with_reducible refine (refcall_any (HX.out.below b1) _).mono ?_); rintro e w2 ⟨rfl, rfl⟩)
      | (go_at_call 36; (with_reducible refine (refat_any s _).mono ?_); rintro e w3 ⟨rfl, rfl⟩))
    go_ret
    exact ⟨⟨_, rfl⟩, grown_of_below b1 _⟩
set_option maxRecDepth 100000 in
theorem refsync_any {X : Nat} {w : World} (H : EmptyD X w) (s : ByteArray) (hs : s.size ≤ 281474976710656) : Calls Tryz.prog 31 #[.pointer (some ⟨X, 0, none⟩), .string s] w fun e w' => (∃ z, e = .returned (.int .i64 z)) ∧ w.grownBy w' (some X) := by
  have HX := Lib.hid H
  obtain ⟨r, hr⟩ : ∃ r, rightL s.data.toList = r := ⟨_, rfl⟩
  have hri := rright_any s w hs
  rw [hr] at hri
  have HRI := Lib.hid hri
  clear hri hr H
  cases r
  · go_enter Tryz.func31, Tryz.ntmps31
    go_wp2_with (first
      | (go_at_call 59; (with_reducible refine HRI.out.mono ?_); rintro e w1 ⟨rfl, b1⟩)
      | (go_at_call 58; (with_reducible refine (refcall_any (HX.out.below b1) _).mono ?_); rintro e w2 ⟨rfl, rfl⟩))
    go_ret
    exact ⟨⟨_, rfl⟩, grown_of_below b1 _⟩
  · go_enter Tryz.func31, Tryz.ntmps31
    go_wp2_with (first
      | (go_at_call 59; (with_reducible refine HRI.out.mono ?_); rintro e w1 ⟨rfl, b1⟩
         have c2 := (HX.out.below b1).cell 2)
      | (go_at_call 58; (with_reducible refine (refcall_any (HX.out.below b1) _).mono ?_); rintro e w2 ⟨rfl, rfl⟩)
      | (go_at_call 36; (with_reducible refine (refat_any s _).mono ?_); rintro e w3 ⟨rfl, rfl⟩))
    go_ret
    exact ⟨⟨_, rfl⟩, grown_of_below b1 _⟩
set_option maxRecDepth 100000 in
theorem refrename_any {X : Nat} {w : World} (H : EmptyD X w) (s t : ByteArray) (hs : s.size ≤ 281474976710656) (ht : t.size ≤ 281474976710656) : Calls Tryz.prog 28 #[.pointer (some ⟨X, 0, none⟩), .string s, .string t] w fun e w' => (∃ z, e = .returned (.int .i64 z)) ∧ w.grownBy w' (some X) := by
  have HX := Lib.hid H
  have fin : ∀ (r : Bool) W, Kept w W → Hid (Calls Tryz.prog 58 #[.pointer (some ⟨X, 0, none⟩), .bool r] W fun e w' => e = .returned (.int .i64 (if r then 0 else 2)) ∧ w' = W) := fun r W h => Lib.hid (refcall_any (HX.out.below h) r)
  obtain ⟨r1, h1⟩ : ∃ r, rightL s.data.toList = r := ⟨_, rfl⟩
  obtain ⟨r2, h2⟩ : ∃ r, rightL t.data.toList = r := ⟨_, rfl⟩
  have hr1 := rright_any s w hs
  have hr2 : ∀ W, Calls Tryz.prog 59 #[.string t] W fun e w' => e = .returned (.bool r2) ∧ Below W.heap.size W w' := fun W => by
    have h := rright_any t W ht
    rw [h2] at h
    exact h
  rw [h1] at hr1
  obtain ⟨ds, hds⟩ : ∃ x, bs (splitL s.data.toList).1 = x := ⟨_, rfl⟩
  obtain ⟨dt, hdt⟩ : ∃ x, bs (splitL t.data.toList).1 = x := ⟨_, rfl⟩
  have hd1 : ∀ W, Calls Tryz.prog 41 #[.string s] W fun e w' => e = .returned (.string ds) ∧ Below W.heap.size W w' := fun W => by
    have h := rdir_any s W hs
    rw [hds] at h
    exact h
  have hd2 : ∀ W, Calls Tryz.prog 41 #[.string t] W fun e w' => e = .returned (.string dt) ∧ Below W.heap.size W w' := fun W => by
    have h := rdir_any t W ht
    rw [hdt] at h
    exact h
  have HR1 := Lib.hid hr1
  have HR2 := Lib.hid hr2
  have HD1 := Lib.hid hd1
  have HD2 := Lib.hid hd2
  have FIN := Lib.hid fin
  clear hr1 hr2 hd1 hd2 h1 h2 hds hdt H fin
  cases r1
  · go_enter Tryz.func28, Tryz.ntmps28
    go_wp2_with (first
      | (go_at_call 59; (with_reducible refine HR1.out.mono ?_); rintro e w1 ⟨rfl, b1⟩
         have k1 : Kept w w1 := b1)
      | (go_at_call 58; (with_reducible refine (FIN.out _ _ k1).out.mono ?_); rintro e w2 ⟨rfl, rfl⟩))
    go_ret
    exact ⟨⟨_, rfl⟩, grown_of_below b1 _⟩
  · cases r2
    · go_enter Tryz.func28, Tryz.ntmps28
      go_wp2_with (first
        | (go_at_call 59; (with_reducible refine HR1.out.mono ?_); rintro e w1 ⟨rfl, b1⟩)
        | (go_at_call 59; (with_reducible refine (HR2.out _).mono ?_); rintro e w2 ⟨rfl, b2⟩
           have k2 : Kept w w2 := Kept.go (show Kept w w1 from b1) b2)
        | (go_at_call 58; (with_reducible refine (FIN.out _ _ k2).out.mono ?_); rintro e w3 ⟨rfl, rfl⟩))
      go_ret
      exact ⟨⟨_, rfl⟩, grown_of_below k2 _⟩
    · by_cases hdd : (ds.toList == dt.toList) = true
      · go_enter Tryz.func28, Tryz.ntmps28
        go_wp2_with (first
          | (go_at_call 59; (with_reducible refine HR1.out.mono ?_); rintro e w1 ⟨rfl, b1⟩)
          | (go_at_call 59; (with_reducible refine (HR2.out _).mono ?_); rintro e w2 ⟨rfl, b2⟩
             have k2 : Kept w w2 := Kept.go (show Kept w w1 from b1) b2)
          | (go_at_call 41; (with_reducible refine (HD1.out _).mono ?_); rintro e w3 ⟨rfl, b3⟩
             have k3 : Kept w w3 := Kept.go k2 b3)
          | (go_at_call 41; (with_reducible refine (HD2.out _).mono ?_); rintro e w4 ⟨rfl, b4⟩
             have k4 : Kept w w4 := Kept.go k3 b4
             have c2 := (HX.out.below k4).cell 2)
          | (go_at_call 58; (with_reducible refine (FIN.out _ _ k4).out.mono ?_); rintro e w5 ⟨rfl, rfl⟩)
          | (go_at_call 36; (with_reducible refine (refat_any s _).mono ?_); rintro e w6 ⟨rfl, rfl⟩))
        go_ret
        exact ⟨⟨_, rfl⟩, grown_of_below k4 _⟩
      · have hdf : (ds.toList == dt.toList) = false := by simpa using hdd
        go_enter Tryz.func28, Tryz.ntmps28
        go_wp2_with (first
          | (go_at_call 59; (with_reducible refine HR1.out.mono ?_); rintro e w1 ⟨rfl, b1⟩)
          | (go_at_call 59; (with_reducible refine (HR2.out _).mono ?_); rintro e w2 ⟨rfl, b2⟩
             have k2 : Kept w w2 := Kept.go (show Kept w w1 from b1) b2)
          | (go_at_call 41; (with_reducible refine (HD1.out _).mono ?_); rintro e w3 ⟨rfl, b3⟩
             have k3 : Kept w w3 := Kept.go k2 b3)
          | (go_at_call 41; (with_reducible refine (HD2.out _).mono ?_); rintro e w4 ⟨rfl, b4⟩
             have k4 : Kept w w4 := Kept.go k3 b4)
          | (go_at_call 58; (with_reducible refine (FIN.out _ _ k4).out.mono ?_); rintro e w5 ⟨rfl, rfl⟩))
        go_ret
        exact ⟨⟨_, rfl⟩, grown_of_below k4 _⟩
set_option maxRecDepth 100000 in
theorem refkeep_any {X : Nat} {w : World} (H : EmptyD X w) (s : ByteArray) : Calls Tryz.prog 62 #[.pointer (some ⟨X, 0, none⟩), .string s, .int .i64 0] w fun e w' => e = .returned (.tuple #[]) ∧ w.grownBy w' (some X) := by
  have c4 := H.cell 4
  have fr : ∀ k, w.frozen? ⟨X, k, none⟩ = false := fun k => H.free k
  clear H
  go_enter Tryz.func62, Tryz.ntmps62
  go_wp2
  go_loopw [6, 16] (fun r i wr => r = .slice none 0 0 ∧ i = .int .i64 0 ∧ wr = w) (fun _ _ _ => 0)
  case atStart => exact ⟨rfl, rfl, rfl⟩
  case round =>
    obtain ⟨rfl, rfl, rfl⟩ := hrel
    go_wp2
    go_end0
    exact ⟨rfl, grown_set _ X 4 _⟩
set_option maxRecDepth 100000 in
theorem refsyncDir_any {X : Nat} {w : World} (H : EmptyD X w) (s : ByteArray) (hs : s.size ≤ 281474976710656) : Calls Tryz.prog 32 #[.pointer (some ⟨X, 0, none⟩), .string s] w fun e w' => (∃ z, e = .returned (.int .i64 z)) ∧ w.grownBy w' (some X) := by
  have HX := Lib.hid H
  have c4 := H.cell 4
  obtain ⟨r, hr⟩ : ∃ r, isPartL s.data.toList = r := ⟨_, rfl⟩
  have hp := rpart_any s w hs
  rw [hr] at hp
  have HP := Lib.hid hp
  have kp : ∀ W, Below w.heap.size w W → Hid (Calls Tryz.prog 62 #[.pointer (some ⟨X, 0, none⟩), .string s, .int .i64 0] W fun e w' => e = .returned (.tuple #[]) ∧ w.grownBy w' (some X)) := fun W hb => Lib.hid ((refkeep_any (HX.out.below hb) s).mono fun e w' ⟨h1, h2⟩ => ⟨h1, (grown_of_below hb (some X)).trans h2⟩)
  have KP := Lib.hid kp
  clear hp hr H kp
  by_cases he : (s.toList == ([] : List UInt8)) = true
  · go_enter Tryz.func32, Tryz.ntmps32
    go_wp2_with (first
      | (go_at_call 58; (with_reducible refine (refcall_any HX.out _).mono ?_); rintro e w2 ⟨rfl, rfl⟩)
      | (go_at_call 62; (with_reducible refine (KP.out _ (Below.refl _ _)).out.mono ?_); rintro e w3 ⟨rfl, g3⟩))
    go_ret
    exact ⟨⟨_, rfl⟩, g3⟩
  · have hf : (s.toList == ([] : List UInt8)) = false := by simpa using he
    cases r
    · go_enter Tryz.func32, Tryz.ntmps32
      go_wp2_with (first
        | (go_at_call 61; (with_reducible refine HP.out.mono ?_); rintro e w1 ⟨rfl, b1⟩)
        | (go_at_call 58; (with_reducible refine (refcall_any (HX.out.below b1) _).mono ?_); rintro e w2 ⟨rfl, rfl⟩))
      go_ret
      exact ⟨⟨_, rfl⟩, grown_of_below b1 _⟩
    · go_enter Tryz.func32, Tryz.ntmps32
      go_wp2_with (first
        | (go_at_call 61; (with_reducible refine HP.out.mono ?_); rintro e w1 ⟨rfl, b1⟩
           have c4' := (HX.out.below b1).cell 4)
        | (go_at_call 58; (with_reducible refine (refcall_any (HX.out.below b1) _).mono ?_); rintro e w2 ⟨rfl, rfl⟩)
        | (go_at_call 62; (with_reducible refine (KP.out _ b1).out.mono ?_); rintro e w3 ⟨rfl, g3⟩))
      go_ret
      exact ⟨⟨_, rfl⟩, g3⟩
end Go.Proofs.YtbodkjifpmencaaGreat
namespace Go.Proofs.YtbodkjifpmencaaGreat
open Go.RowKit
open Go.Lib

theorem Tryz.infoName : (Tryz.prog.info? 78).map (fun i => (i.zero, i.size, i.bytes)) = some (some (.agg #[.string ⟨#[]⟩, .int .i64 0]), 2, 24) := by kernel_rfl
theorem Tryz.infoChange : (Tryz.prog.info? 106).map (fun i => (i.zero, i.size, i.bytes)) = some (some (.agg #[.string ⟨#[]⟩, .slice none 0 0]), 2, 40) := by kernel_rfl
theorem Tryz.infoBody : (Tryz.prog.info? 76).map (fun i => (i.zero, i.size, i.bytes)) = some (some (.agg #[.string ⟨#[]⟩, .string ⟨#[]⟩]), 2, 32) := by kernel_rfl
theorem two_news (w : World) (x y : Value) (t : TypeId) : ∀ j u, [x, y][j]? = some u → (w.alloc (.cells #[x, y] t)).cell? ((⟨w.heap.size, 0, none⟩ : Addr).add j) = some u := fun j u hj => by
  rw [Addr.add_mid, Nat.zero_add, (Blk.new _ _).cell]
  simpa using hj
set_option maxRecDepth 100000 in
set_option maxHeartbeats 1000000 in
theorem refwith_any (s : ByteArray) (w : World) : Calls Tryz.prog 76 #[.slice none 0 0, .agg #[.string s, .int .i64 0]] w fun e w' => (∃ A n c, e = .returned (.slice A n c)) ∧ Below w.heap.size w w' := by
  obtain ⟨i0, hi, hz0, hz1, hz2⟩ := info_parts Tryz.infoName
  obtain ⟨B, hB⟩ : ∃ B, w.heap.size = B := ⟨_, rfl⟩
  obtain ⟨W1, hW1⟩ : ∃ V, w.alloc (.cells #[.string s, .int .i64 0] 78) = V := ⟨_, rfl⟩
  have hbx := Blk.new (.cells #[.string s, .int .i64 0] 78 (0, 0)) w
  have hb1 : Below w.heap.size w W1 := by rw [← hW1]; exact (Below.refl _ _).alloc (Nat.le_refl _) _
  have hz1' : W1.heap.size = B + 1 := by rw [← hW1, ← hB]; simp
  rw [hW1, hB] at hbx
  have e0 : W1.cell? ⟨B, 0, none⟩ = some (.string s) := hbx.cell 0
  have e1 : W1.cell? ⟨B, 1, none⟩ = some (.int .i64 0) := hbx.cell 1
  have HB1 := Lib.hid hb1
  clear hb1 hbx
  go_enter Tryz.func76, Tryz.ntmps76
  go_wp2
  go_loopw [5, 10] (fun o i wr => o = .slice none 0 0 ∧ i = .int .i64 0 ∧ wr = W1) (fun _ _ _ => 0)
  case atStart => exact ⟨rfl, rfl, rfl⟩
  case round =>
    obtain ⟨rfl, rfl, rfl⟩ := hrel
    go_wp2_with (at_builtin; refine wpList_append_own _ rfl _ _ 62 rfl 0 78 i0 (.agg #[.string ⟨#[]⟩, .int .i64 0]) 2 24 Tryz.underlying62 hi hz0 hz1 hz2 rfl (by decide) (.slice none 0 0) 0 [] rfl (World.ownsRow_nil _ _ _ _) ⟨B + 1, 0, none⟩ 1 1 [.string s, .int .i64 0] rfl rfl (by have h := two_news wr (.string s) (.int .i64 0) 78; rw [hz1'] at h; exact h) (fun u hu => by simp at hu; rcases hu with rfl | rfl <;> rfl) (by decide) (by decide) (Nat.zero_le _) ?_; intro v' w6 hown' hg6 _)
    have hf : ∃ A n c, v' = .slice A n c := by
      rcases hown'.2 with ⟨h, _⟩ | ⟨g, cap, cur, h, _⟩
      · exact ⟨_, _, _, h⟩
      · exact ⟨_, _, _, h⟩
    obtain ⟨A, n, c, rfl⟩ := hf
    have hk : Kept w w6 := Kept.go (show Kept w wr from HB1.out) (by
      have h1 := (Below.refl wr.heap.size wr).alloc (Nat.le_refl _) (.cells #[.string s, .int .i64 0] 78)
      exact h1.grown hg6 (by simp) (fun j hj => by cases hj))
    clear hown' hg6
    go_wp2
    go_ret
    exact ⟨⟨_, _, _, rfl⟩, by rw [← hB]; exact hk⟩
theorem grown_more {w w' : World} {row : Option Nat} (h : w.grownBy w' none) : w.grownBy w' row := ⟨h.os, h.tape, h.output, h.size, fun k hk _ => h.block k hk (by simp)⟩
theorem own_slice {w : World} {base size n : Nat} {e : TypeId} {v : Value} {xs : List Value} (h : w.ownsRow base e size v n xs) : ∃ A m c, v = .slice A m c := by
  rcases h.2 with ⟨h, _⟩ | ⟨g, cap, cur, h, _⟩
  · exact ⟨_, _, _, h⟩
  · exact ⟨_, _, _, h⟩
set_option maxRecDepth 100000 in
set_option maxHeartbeats 2000000 in
theorem refchange_any {X B : Nat} {w : World} (b1 : Value) (H : Blk X (.cells #[.int .i64 0, b1, .slice none 0 0, .slice none 0 0, .slice none 0 0, .bool false, .bool false, .int .i64 0] 65 (0, 0)) w) (s d : ByteArray) (hL : Blk B (.cells #[.string s, .int .i64 0] 78 (0, 0)) w) (_hBX : B ≠ X) :
    Calls Tryz.prog 60 #[.pointer (some ⟨X, 0, none⟩), .string d, .slice (some ⟨B, 0, none⟩) 1 1] w fun e w' => e = .returned (.tuple #[]) ∧ w.grownBy w' (some X) := by
  obtain ⟨i0, hi, hz0, hz1, hz2⟩ := info_parts Tryz.infoChange
  have HX := Lib.hid H
  have l0 : w.cell? ⟨B, 0, none⟩ = some (.string s) := hL.cell 0
  have l1 : w.cell? ⟨B, 1, none⟩ = some (.int .i64 0) := hL.cell 1
  clear H hL
  go_enter Tryz.func60, Tryz.ntmps60
  go_wp2
  go_loopw [10] (fun i wr => (i = .int .i64 0 ∧ wr = w) ∨ (i = .int .i64 1 ∧ w.grownBy wr (some X) ∧ ∃ v, Blk X (.cells #[.int .i64 0, b1, v, .slice none 0 0, .slice none 0 0, .bool false, .bool false, .int .i64 0] 65 (0, 0)) wr)) (fun i _ => 1 - (RowKit.intOf i).toNat)
  case atStart => exact .inl ⟨rfl, rfl⟩
  case round =>
    rcases hrel with ⟨rfl, rfl⟩ | ⟨rfl, hg, v, hX⟩
    · have hb1 : Below wr.heap.size wr (wr.alloc (.cells #[.string s, .int .i64 0] 78)) := (Below.refl _ _).alloc (Nat.le_refl _) _
      have hx1 := (Off.of_below hb1).blk HX.out (fun h => h)
      have x2 : (wr.alloc (.cells #[.string s, .int .i64 0] 78)).cell? ⟨X, 2, none⟩ = some (.slice none 0 0) := hx1.cell 2
      have x2' : (wr.alloc (.cells #[.string s, .int .i64 0] 78)).drew.cell? ⟨X, 2, none⟩ = some (.slice none 0 0) := x2
      have HX1 := Lib.hid hx1
      have HB1 := Lib.hid hb1
      have hxl : ¬ (X = wr.heap.size) := by have := HX.out.lt; omega
      clear hb1 hx1
      go_upto_region 3 with fail
      go_region_with (first
        | (go_at_call 76; (with_reducible refine (refwith_any s _).mono ?_); rintro e w5 ⟨⟨A5, n5, c5, rfl⟩, b5⟩
           have hx5 : Blk X (.cells #[.int .i64 0, b1, .slice none 0 0, .slice none 0 0, .slice none 0 0, .bool false, .bool false, .int .i64 0] 65 (0, 0)) w5 := (Off.of_below b5).blk (show Blk X _ (World.drew _) from HX1.out) (fun h => h)
           have y2 := hx5.cell 2
           have yf := hx5.free 2))
      all_goals go_wp2
      all_goals
        have k5 : Kept wr w5 := Kept.go (Kept.drew (show Kept wr _ from HB1.out)) b5
        exact ⟨.inr ⟨rfl, (grown_of_below k5 (some X)).trans (grown_set w5 X 2 _), _, hx5.set 2 (.slice A5 n5 c5)⟩, by simp [RowKit.intOf]⟩
    · have y4 := hX.cell 4
      have yf := hX.free 4
      have HG := Lib.hid hg
      have HX6 : Hid (∀ w6, (wr.alloc (.cells #[.string d, .slice (some ⟨B, 0, none⟩) 1 1] 106)).grownBy w6 none → Blk X (.cells #[.int .i64 0, b1, v, .slice none 0 0, .slice none 0 0, .bool false, .bool false, .int .i64 0] 65 (0, 0)) w6) := Lib.hid (fun w6 g => ((Off.of_below ((Below.refl _ _).alloc (Nat.le_refl _) _)).blk hX (fun h => h)).grown g (by simp))
      have z4 : (wr.alloc (.cells #[.string d, .slice (some ⟨B, 0, none⟩) 1 1] 106)).cell? ⟨X, 4, none⟩ = some (.slice none 0 0) := ((Off.of_below ((Below.refl _ _).alloc (Nat.le_refl _) _)).blk hX (fun h => h)).cell 4
      clear hg hX
      go_wp2_with (first
        | (at_builtin; refine wpList_append_own _ rfl _ _ 63 rfl 0 106 i0 (.agg #[.string ⟨#[]⟩, .slice none 0 0]) 2 40 Tryz.underlying63 hi hz0 hz1 hz2 rfl (by decide) (.slice none 0 0) 0 [] rfl (World.ownsRow_nil _ _ _ _) ⟨wr.heap.size, 0, none⟩ 1 1 [.string d, .slice (some ⟨B, 0, none⟩) 1 1] rfl rfl (two_news wr _ _ 106) (fun u hu => by simp at hu; rcases hu with rfl | rfl <;> rfl) (by decide) (by decide) (Nat.zero_le _) ?_; intro v' w6 hown' hg6 _
           obtain ⟨A6, n6, c6, rfl⟩ := own_slice hown'
           have a4 := (HX6.out w6 hg6).cell 4
           have af := (HX6.out w6 hg6).free 4))
      go_end0
      exact ⟨rfl, ((HG.out.trans (grown_alloc wr _ _)).trans (grown_more hg6)).trans (grown_set w6 X 4 _)⟩
end Go.Proofs.YtbodkjifpmencaaGreat
namespace Go.Proofs.YtbodkjifpmencaaGreat
open Go.RowKit
open Go.Lib

theorem own_1s {w : World} {base size : Nat} {e : TypeId} {v : Value} {xs : List Value} (h : w.ownsRow base e size v (0 + 1) xs) : ∃ A c, v = .slice A 1 c := by
  rcases h.2 with ⟨_, h⟩ | ⟨g, cap, cur, h, _⟩
  · exact absurd h (by decide)
  · exact ⟨_, _, h⟩
set_option maxRecDepth 100000 in
set_option maxHeartbeats 4000000 in
theorem refwrite_any {X : Nat} {w : World} (H : EmptyD X w) (s t : ByteArray) (hs : s.size ≤ 281474976710656) (ht : t.size ≤ 10000000) : Calls Tryz.prog 25 #[.pointer (some ⟨X, 0, none⟩), .string s, .string t] w fun e w' => (∃ z, e = .returned (.int .i64 z)) ∧ w.grownBy w' (some X) := by
  obtain ⟨i0, hi, hz0, hz1, hz2⟩ := info_parts Tryz.infoBody
  have HX := Lib.hid H
  obtain ⟨r, hr⟩ : ∃ r, rightL s.data.toList = r := ⟨_, rfl⟩
  have hri := rright_any s w hs
  rw [hr] at hri
  have HRI := Lib.hid hri
  obtain ⟨d, hd⟩ : ∃ x, bs (splitL s.data.toList).1 = x := ⟨_, rfl⟩
  have hdi : ∀ W, Calls Tryz.prog 41 #[.string s] W fun e w' => e = .returned (.string d) ∧ Below W.heap.size W w' := fun W => by
    have h := rdir_any s W hs
    rw [hd] at h
    exact h
  have HDI := Lib.hid hdi
  clear hri hr H hdi hd
  obtain ⟨nt, hnt⟩ : ∃ x, t.size = x := ⟨_, rfl⟩
  rw [hnt] at ht
  cases r
  · go_enter Tryz.func25, Tryz.ntmps25
    go_wp2_with (first
      | (go_at_call 59; (with_reducible refine HRI.out.mono ?_); rintro e w1 ⟨rfl, b1⟩)
      | (go_at_call 58; (with_reducible refine (refcall_any (HX.out.below b1) _).mono ?_); rintro e w2 ⟨rfl, rfl⟩))
    go_ret
    exact ⟨⟨_, rfl⟩, grown_of_below b1 _⟩
  · by_cases hz : 0 < nt
    · have hzi : (0 : Int) < (nt : Int) := by omega
      go_enter Tryz.func25, Tryz.ntmps25
      go_wp2_with (first
        | (go_at_call 59; (with_reducible refine HRI.out.mono ?_); rintro e w1 ⟨rfl, b1⟩
           have c0 := (HX.out.below b1).cell 0
           have c2 := (HX.out.below b1).cell 2)
        | (go_at_call 58; (with_reducible refine (refcall_any (HX.out.below b1) _).mono ?_); rintro e w2 ⟨rfl, rfl⟩)
        | (go_at_call 13; (with_reducible refine (refused_any (HX.out.below b1)).mono ?_); rintro e w3 ⟨rfl, rfl⟩)
        | (go_at_call 36; (with_reducible refine (refat_any s _).mono ?_); rintro e w4 ⟨rfl, rfl⟩))
      go_ret
      exact ⟨⟨_, rfl⟩, grown_of_below b1 _⟩
    · obtain rfl : nt = 0 := by omega
      clear hz
      go_enter Tryz.func25, Tryz.ntmps25
      go_upto_region 11 with (first
        | (go_at_call 59; (with_reducible refine HRI.out.mono ?_); rintro e w1 ⟨rfl, b1⟩
           have c0 := (HX.out.below b1).cell 0
           have c2 := (HX.out.below b1).cell 2
           have c1 := (HX.out.below b1).cell 1
           have a1 : (w1.alloc (.cells #[.string t, .string ⟨#[]⟩] 76)).cell? ⟨X, 1, none⟩ = some (.slice none 0 0) := ((HX.out.below b1).below ((Below.refl _ _).alloc (Nat.le_refl _) _)).cell 1)
        | (go_at_call 58; (with_reducible refine (refcall_any (HX.out.below b1) _).mono ?_); rintro e w2 ⟨rfl, rfl⟩)
        | (go_at_call 13; (with_reducible refine (refused_any (HX.out.below b1)).mono ?_); rintro e w3 ⟨rfl, rfl⟩)
        | (go_at_call 36; (with_reducible refine (refat_any s _).mono ?_); rintro e w4 ⟨rfl, rfl⟩)
        | (at_builtin; refine wpList_append_own _ rfl _ _ 61 rfl 0 76 i0 (.agg #[.string ⟨#[]⟩, .string ⟨#[]⟩]) 2 32 Tryz.underlying61 hi hz0 hz1 hz2 rfl (by decide) (.slice none 0 0) 0 [] rfl (World.ownsRow_nil _ _ _ _) ⟨_, 0, none⟩ 1 1 [.string t, .string ⟨#[]⟩] rfl rfl (two_news _ _ _ 76) (fun u hu => by simp at hu; rcases hu with rfl | rfl <;> rfl) (by decide) (by decide) (Nat.zero_le _) ?_; intro v' w6 hown' hg6 _
           obtain ⟨A6, c6, rfl⟩ := own_1s hown'
           have hx6 : EmptyD X w6 := ((HX.out.below b1).below ((Below.refl _ _).alloc (Nat.le_refl _) _)).grown hg6 (by simp [Value.ownBlock])
           have k6 : w.grownBy w6 (some X) := ((grown_of_below b1 (some X)).trans (grown_alloc _ _ _)).trans (grown_more hg6)
           have a4 := hx6.cell 1
           have af := hx6.free 1))
      have hx0 := hx6.set 1 (.slice A6 1 c6)
      have k0 := k6.trans (grown_set w6 X 1 (.slice A6 1 c6))
      obtain ⟨W0, hW0⟩ : ∃ V, w6.setCell ⟨X, 1, none⟩ (.slice A6 1 c6) = V := ⟨_, rfl⟩
      rw [hW0] at hx0 k0 ⊢
      have hXV : ∀ V, Below W0.heap.size W0 V → Blk X (.cells #[.int .i64 0, .slice A6 1 c6, .slice none 0 0, .slice none 0 0, .slice none 0 0, .bool false, .bool false, .int .i64 0] 65 (0, 0)) V := fun V hb => (Off.of_below hb).blk hx0 (fun h => h)
      have XV := Lib.hid hXV
      have K0 := Lib.hid k0
      have hxl := hx0.lt
      have y1 : W0.drew.cell? ⟨X, 1, none⟩ = some (.slice A6 1 c6) := hx0.cell 1
      have y1b : (W0.drew.alloc (.cells #[.string s, .int .i64 0] 78)).cell? ⟨X, 1, none⟩ = some (.slice A6 1 c6) := (hXV _ (show Kept W0 (W0.drew.alloc _) from Kept.go (Kept.drew (show Kept W0 W0 from Below.refl _ _)) ((Below.refl _ _).alloc (Nat.le_refl _) _))).cell 1
      have hw0 : IntKind.i64.wrap 0 = 0 := by decide
      clear hW0 hx0 k0 k6 hx6 hown' hg6 c0 c1 c2 a1 a4 af hXV hz0 hz1 hz2 hi
      go_region_with (first
        | (go_at_call 41; (with_reducible refine (HDI.out _).mono ?_); rintro e w7 ⟨rfl, b7⟩
           first
             | (have k7 : Kept W0 w7 := Kept.go (Kept.drew (show Kept W0 W0 from Below.refl _ _)) b7
                have y7 := (XV.out w7 k7).cell 1)
             | (have k7 : Kept W0 w7 := Kept.go (Kept.go (Kept.drew (show Kept W0 W0 from Below.refl _ _)) ((Below.refl _ _).alloc (Nat.le_refl _) _)) b7
                have y7 := (XV.out w7 k7).cell 1))
        | (go_at_call 60
           first
             | (have q8 : Kept W0 (w7.alloc (.cells #[.string s, .int .i64 0] 78)) := Kept.go k7 ((Below.refl _ _).alloc (Nat.le_refl _) _)
                have u8 := XV.out _ q8
                have v8 := Blk.new (.cells #[.string s, .int .i64 0] 78 (0, 0)) w7
                have n8 : w7.heap.size ≠ X := by have := k7.size; omega
                with_reducible refine (refchange_any (.slice A6 1 c6) u8 s d v8 n8).mono ?_
                rintro e w9 ⟨rfl, g9⟩
                have gg : w.grownBy w9 (some X) := (K0.out.trans (grown_of_below q8 (some X))).trans g9)
             | (have u8 := XV.out w7 k7
                have v8 : Blk W0.heap.size (.cells #[.string s, .int .i64 0] 78 (0, 0)) w7 := (Off.of_below b7).blk (Blk.new (.cells #[.string s, .int .i64 0] 78 (0, 0)) W0.drew) (fun h => h)
                have n8 : W0.heap.size ≠ X := by omega
                with_reducible refine (refchange_any (.slice A6 1 c6) u8 s d v8 n8).mono ?_
                rintro e w9 ⟨rfl, g9⟩
                have gg : w.grownBy w9 (some X) := (K0.out.trans (grown_of_below k7 (some X))).trans g9)))
      all_goals go_wp2
      all_goals go_ret
      all_goals exact ⟨⟨_, rfl⟩, gg⟩
end Go.Proofs.YtbodkjifpmencaaGreat
